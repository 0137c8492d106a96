import Derived.Test.YtpifffkkgnbfpaaGreatP33
set_option linter.unusedSimpArgs false
set_option linter.unusedVariables false
namespace Go.Proofs.YtpifffkkgnbfpaaGreat.Tree
open Go.RowKit Pages
variable {fs:Fs}
theorem Sw:∀ (L:List (Nat×ByteArray)) {F F':Fs} {b:Bool},F.wrL L=(b,F')→F'.safe=F.safe∧(b=true→F'.late=F.late++L)∧(b=false→∃ k,F'.late=F.late++L.take k)
 | [],F,F',b,h=>by
  obtain⟨rfl,rfl⟩:=Prod.mk.inj h
  exact⟨rfl,fun _=>by simp,fun h=>by simp at h⟩
 | x :: L,F,F',b,h=>by
  unfold Fs.wrL at h
  split at h
  ·obtain⟨h1,h2,h3⟩:=Sw L h
   refine⟨h1.trans (Fs.ch_safe F),fun hb=>?_,fun hb=>?_⟩
   ·rw [h2 hb];show (F.ch.late++[x])++L=_;rw [Fs.ch_late];simp
   ·obtain⟨k,hk⟩:=h3 hb
    refine⟨k+1,?_⟩
    rw [hk];show (F.ch.late++[x])++L.take k=_;rw [Fs.ch_late];simp
  ·obtain⟨rfl,rfl⟩:=Prod.mk.inj h
   exact⟨Fs.ch_safe F,fun h=>by simp at h,fun _=>⟨0,by rw [Fs.ch_late];simp⟩⟩
theorem Vd {fs fs':Fs} {l:List (Nat×Pg)} {m:Nat} {mt:Pg} {b:Bool} (hl:fs.late=[]) (h:fs.sureA l m mt=(b,fs')):(b=true→fs'.safe=(fs.made l m mt).safe∧fs'.late=[])∧(b=false→Cut fs l m mt fs'):=by
 have hin:∀ k,∀ x∈(lF l).take k,∃ y∈l,x=(y.1,y.2.encS):=fun k x hx=>by
  obtain⟨y,hy,rfl⟩:=List.mem_map.1 (List.mem_of_mem_take hx)
  exact⟨y,hy,rfl⟩
 unfold Fs.sureA at h
 split at h
 ·obtain⟨rfl,rfl⟩:=Prod.mk.inj h
  exact⟨fun h=>by simp at h,fun _=>.inl ⟨rfl,by rw [hl];simp⟩⟩
 ·unfold Fs.wrA at h
  obtain⟨⟨c,F⟩,hL⟩:∃ R,fs.wrL (lF l)=R:=⟨_,rfl⟩
  rw [hL] at h
  obtain⟨h1,h2,h3⟩:=Sw _ hL
  rw [hl] at h2 h3
  cases c
  ·obtain⟨rfl,rfl⟩:=Prod.mk.inj h
   obtain⟨k,hk⟩:=h3 rfl
   refine⟨fun h=>by simp at h,fun _=>.inl ⟨h1,?_⟩⟩
   rw [hk];exact hin k
  ·have h2':=h2 rfl
   rw [jE] at h2'
   have hsy:laid F.safe F.late=(fs.puts l).synced.safe:=by
    show _=laid fs.safe (fs.late++_)
    rw [hl,h1,h2'];rfl
   replace h:F.wrE m mt.encS=(b,fs'):=h
   unfold Fs.wrE at h
   cases b1:F.chOk
   ·rw [b1] at h
    obtain⟨rfl,rfl⟩:=Prod.mk.inj h
    refine⟨fun h=>by simp at h,fun _=>.inl ?_⟩
    rw [Fs.wrS,b1]
    refine⟨(Fs.ch_safe F).trans h1,?_⟩
    show ∀ x∈F.ch.late,_
    rw [Fs.ch_late,h2']
    intro x hx
    exact hin l.length x (by rw [List.take_of_length_le (by simp [lF])];exact hx)
   ·rw [b1] at h
    have e1:F.wrS=F.ch.synced:=by rw [Fs.wrS,b1,if_pos rfl]
    have s1:F.wrS.safe=(fs.puts l).synced.safe:=by rw [e1,← hsy];show laid F.ch.safe F.ch.late=_;rw [Fs.ch_safe,Fs.ch_late]
    have t1:F.wrS.late=[]:=by rw [e1];rfl
    obtain⟨F1,hF1⟩:=nM (F.wrS)
    rw [hF1] at h s1 t1
    cases b2:F1.chOk
    ·rw [b2] at h
     obtain⟨rfl,rfl⟩:=Prod.mk.inj h
     refine⟨fun h=>by simp at h,fun _=>.inr ?_⟩
     rw [Fs.wrP,b2]
     exact⟨(Fs.ch_safe F1).trans s1,.inl ((Fs.ch_late F1).trans t1)⟩
    ·rw [b2] at h
     have e2:F1.wrP m mt.encS=F1.ch.put m mt.encS:=by rw [Fs.wrP,b2,if_pos rfl]
     obtain⟨F2,hF2⟩:=nM (F1.wrP m mt.encS)
     have s2:F2.safe=(fs.puts l).synced.safe:=by rw [← hF2,e2];exact(Fs.ch_safe F1).trans s1
     have t2:F2.late=[(m,mt.encS)]:=by rw [← hF2,e2];show F1.ch.late++_=_;rw [Fs.ch_late,t1];rfl
     rw [hF2] at h
     obtain⟨rfl,rfl⟩:=Prod.mk.inj h
     cases b3:F2.chOk
     ·refine⟨fun h=>by simp at h,fun _=>.inr ?_⟩
      rw [Fs.wrS,b3]
      exact⟨(Fs.ch_safe F2).trans s2,.inr ((Fs.ch_late F2).trans t2)⟩
     ·refine⟨fun _=>?_,fun h=>by simp at h⟩
      rw [Fs.wrS,b3,if_pos rfl]
      refine⟨?_,rfl⟩
      show laid F2.ch.safe F2.ch.late=laid _ _
      rw [Fs.ch_safe,Fs.ch_late,s2,t2]
      rfl
structure Tidy (fs:Fs):Prop where
 size:∀ s∈fs.safe,s.size=256
 late:∀ x∈fs.late,x.2.size=256
 fits:fs.fits
theorem dV.tidy {K:List ByteArray} {n v:Nat}  {o ao:Option (Nat×T)} (S:dV K n fs v o ao):Tidy fs:=⟨S.size,by rw [S.late];simp,fun x hx=>by rw [S.late] at hx;simp at hx⟩
theorem Cut.tidy {fs fs1:Fs} {l:List (Nat×Pg)} {m:Nat} {mt:Pg} (h:Cut fs l m mt fs1) (hz:∀ s∈fs.safe,s.size=256) (hl:fs.late=[]) (hE:∀ y∈l,y.2.encE=0) (hmE:mt.encE=0) (hp:∀ y∈l,y.1<fs.safe.length) (hm:m<fs.safe.length):Tidy fs1:=by
 rcases h with⟨h1,h2⟩|⟨h1,h2⟩
 ·refine⟨by rw [h1];exact hz,fun x hx=>?_,fun x hx=>?_⟩
  ·obtain⟨y,hy,rfl⟩:=h2 x hx
   exact iD _ (hE y hy)
  ·obtain⟨y,hy,rfl⟩:=h2 x hx
   rw [h1];exact hp y hy
 ·have hlen:fs1.safe.length=fs.safe.length:=by rw [h1];exact cU _ _
  refine⟨?_,fun x hx=>?_,fun x hx=>?_⟩
  ·rw [h1]
   refine mA _ _ hz (fun x hx=>?_)
   simp only [Fs.puts,hl,jE,List.mem_map] at hx
   obtain⟨y,hy,rfl⟩:=hx
   exact iD _ (hE y hy)
  ·rcases h2 with h2|h2
   ·rw [h2] at hx;simp at hx
   ·rw [h2,List.mem_singleton] at hx;subst hx;exact iD _ hmE
  ·rcases h2 with h2|h2
   ·rw [h2] at hx;simp at hx
   ·rw [h2,List.mem_singleton] at hx;subst hx;rw [hlen];exact hm
inductive Aft (K:List ByteArray) (n:Nat) (fs:Fs) (v:Nat) (o ao o':Option (Nat×T)):Bool→Prop where
 | old:dV K n fs v o ao→Aft K n fs v o ao o' false
 | torn:zV K n fs v o→Aft K n fs v o ao o' false
 | new (b:Bool):dV K n fs (v+1) o' o→Aft K n fs v o ao o' b
structure Fore (K:List ByteArray) (n:Nat) (fs:Fs) (v:Nat) (o ao o':Option (Nat×T)) (b:Bool):Prop where
 tidy:Tidy fs
 aft:∀ fs2:Fs,fW fs.safe fs.late fs2.safe→fs2.late=[]→Aft K n fs2 v o ao o' b
theorem Dy {safe safe':List ByteArray} (h:fW safe [] safe') (hz:∀ s∈safe,s.size=256):safe'=safe:=by
 apply List.ext_getElem h.len
 intro i h1 h2
 have:=h.same hz (p:=i) (by simp)
 rwa [getD_in h1,getD_in h2] at this
theorem Vb {K:List ByteArray} {n v:Nat} {fs fs':Fs} {o ao:Option (Nat×T)} {cs:List Ch} {fr:List Nat} {b:Bool} (S:dV K n fs v o ao) (P:nK K n fs o cs fr) (hao:∀ p∈bZ ao,p ∉ fr) (hv:v+1<9223372036854775808) (hn:2≤n) (h:fs.sureA (bQ o cs fr).2 ((v+1) % 2) (aY (v+1:Nat) (rootOf (bQ o cs fr).1:Nat))=(b,fs')):Fore K n fs' v o ao (bQ o cs fr).1 b:=by
 obtain⟨c1,c2,c3,_,_⟩:=gM S P hv hn
 have hmE:(aY ((v+1:Nat):Int) (rootOf (bQ o cs fr).1:Nat)).encE=0:=pJ (v+1:Nat) _ (by omega) (c1.sure.root.imp (fun h=>by rw [h];rfl) id)
 obtain⟨h1,h2⟩:=Vd S.late h
 cases b
 ·have hC:=h2 rfl
  refine⟨hC.tidy S.size S.late c2 hmE (fun y hy=>?_) (by rw [S.len];omega),fun fs2 hcr hl=>?_⟩
  ·have:=P.free _ (Bi c3 y hy)
   rw [S.len];omega
  ·rcases Xx S P hao hv hn hC hcr hl with h|h|h
   ·exact .old h
   ·exact .new _ h
   ·exact .torn h
 ·obtain⟨e1,e2⟩:=h1 rfl
  refine⟨⟨by rw [e1];exact c1.size,by rw [e2];simp,fun x hx=>by rw [e2] at hx;simp at hx⟩,fun fs2 hcr hl=>?_⟩
  rw [e2,e1] at hcr
  have e:=Dy hcr c1.size
  exact .new _ (c1.keep (fr:=[]) hl (by rw [e];exact c1.len) (by rw [e];exact c1.size) (fun p _=>by rw [kU hl,kU c1.late,e]) (by simp) (by simp) (by simp))
