/-
  Joined: KidsP.
-/
import Derived.Test.YtfnhmpcpeahfkaaGreatU27
set_option linter.unusedSimpArgs false
set_option linter.unusedVariables false
set_option maxRecDepth 100000
set_option maxHeartbeats 8000000
namespace Go.Proofs.YtfnhmpcpeahfkaaGreat.Tree
open Go.RowKit Go.Shelf Pages
attribute [local go_sem] Oper.semAt_some
theorem qNu (ch:List PanicEntry) (bw bp:Nat) (s:Sp) (kind ver root next:Int) (ka ia ea:Option Addr) (kc ic en ec:Nat) (data:ByteArray) (keys:List ByteArray) (kids:List Int) (Rd:Bl) (w:World)
  (hw:w.heap[bw]?=some (.cells #[.string s.lo,.string s.hi] 135)) (hp:w.heap[bp]?=some (.cells #[.int .i64 kind,.int .i64 ver,.int .i64 root,.int .i64 next,.slice ka keys.length kc,.slice ia kids.length ic,.slice ea en ec,.string data] 85))
  (hK:aL w Rd ka (keys.map .string)) (hI:aL w Rd ia (kids.map (.int .i64))) (rw_:Rd bw) (rp:Rd bp) (hkn:keys.length≤1000) (hin:kids.length≤1000) (hkc:keys.length≤kc) (hic:kids.length≤ic) :
  qRg Tryz.prog 140 #[.pointer (some ⟨bw,0,none⟩),.pointer (some ⟨bp,0,none⟩)] jV (parts s keys kids) Rd ch False w:=by
 intro l J Jp Y W hon hRd sJ lJ sJp lJp hown hY h0
 clear hown
 refine callsIn_of_wp Tryz.func140 rfl trivial ?_ rfl
 simp only [Tryz.ntmps140,List.size_toArray,List.length_cons,List.length_nil,Nat.reduceAdd,Nat.reduceSub,Array.replicate_succ,Array.replicate_zero,List.push_toArray,List.append_toArray,List.nil_append,List.cons_append]
 have hw1:=hon.heap hw rw_
 have hp1:=hon.heap hp rp
 obtain⟨a0,a1⟩:=bQ hw1
 obtain⟨e0,e1,e2,e3,e4,e5,e6,e7⟩:=bH hp1
 have lw:=(hRd bw rw_).2
 have lp:=(hRd bp rp).2
 have hF0:∀ Z v,Fr Z W (W.alloc (.cells v 135)):=fun Z v=>(Fr.refl Z W).alloc _
 have hb0:=aB W (.cells #[.string s.lo,.string s.hi] 135)
 have lY:=lJ [] Y W h0
 have HA:Hid (∀ j (hj:j<kids.length),(parts s keys kids)[j]?=some (kids[j],⟨iW s keys j,iI s keys j⟩)):=fun j hj=>fO s keys kids j hj
 have HL:Hid ((parts s keys kids).length=kids.length):=dD s keys kids
 gi_wp2
 gi_loopw [11] (fun i wr=>∃ (j:Nat) (Yr:Bl) (hi:ByteArray),j≤kids.length∧i=.int .i64 j∧J ((parts s keys kids).take j) Yr wr∧Fr Y W wr∧aK W Y Yr∧¬ Yr W.heap.size ∧
   wr.heap[W.heap.size]?=some (.cells #[.string (iW s keys j),.string hi] 135)) (fun i _=>kids.length-(intOf i).toNat)
 case atStart =>
  exact⟨0,Y,s.hi,Nat.zero_le _,rfl,by simpa using sJ _ _ _ _ h0 ((On.refl Y W).alloc lY _),hF0 _ _,aK.refl _ _,fun h=>Nat.lt_irrefl _ (lY _ h),hb0⟩
 case round =>
  obtain⟨j,Yr,hi,hj,rfl,hJ,hF,hG,hn,hbox⟩:=hrel
  have oR:On Rd W wr:=hF.on (fun k hk=>⟨(hRd k hk).2,(hRd k hk).1⟩)
  obtain⟨b0,b1⟩:=bQ (oR.heap hw1 rw_)
  obtain⟨f0,f1,f2,f3,f4,f5,f6,f7⟩:=bH (oR.heap hp1 rp)
  obtain⟨d0,d1⟩:=bQ hbox
  have dfr:=aJ hbox
  have lwr:=hF.size
  clear a0 a1 e0 e1 e2 e3 e4 e5 e6 e7 hb0 hF0
  by_cases hlt:j<kids.length
  ·obtain⟨ib,io,hia,hib,hic2⟩:=((hI.on hon).on oR).at hlt
   subst hia
   have nbw:W.heap.size≠bw:=by omega
   have nbp:W.heap.size≠bp:=by omega
   have nib:W.heap.size≠ib:=by have:=(hRd ib hib).2;omega
   by_cases hk:j<keys.length
   ·obtain⟨kb,ko,hka,hkb,hkc2⟩:=((hK.on hon).on oR).at hk
    subst hka
    have nkb:W.heap.size≠kb:=by have:=(hRd kb hkb).2;omega
    obtain⟨w1,hw1d⟩:=nM ((wr.setCell ⟨W.heap.size,1,none⟩ (.string s.hi)).setCell ⟨W.heap.size,1,none⟩ (.string keys[j]))
    have hhi:iI s keys j=keys[j]:=by simp [iI,hk]
    have x1:w1.heap[W.heap.size]?=some (.cells #[.string (iW s keys j),.string (keys[j])] 135):=by
     rw [← hw1d];have:=aI (aI hbox 1 (.string s.hi)) 1 (.string keys[j]);simpa using this
    have f1r:Fr (Bl.one W.heap.size) wr w1:=by rw [← hw1d];exact((Fr.refl (Bl.one W.heap.size) wr).setCell (p:=⟨W.heap.size,1,none⟩) (.inl rfl) _).setCell (p:=⟨W.heap.size,1,none⟩) (.inl rfl) _
    have f1:Fr Y W w1:=hF.grow f1r (fun k hk=>.inr (by simp only [Bl.one] at hk;omega))
    have o1:On Yr wr w1:=f1r.on (fun k hk=>⟨lJ _ _ _ hJ k hk,fun h=>by simp only [Bl.one] at h;subst h;exact hn hk⟩)
    have pA:=HA.out j hlt
    obtain⟨fn,tmps,assign,body,hy,hR⟩:=hY _ _ _ #[.int .i64 kids[j],.agg #[.string (iW s keys j),.string (keys[j])]] Bl.none Yr w1 (nO pA) (sJ _ _ _ _ hJ o1) (by simp [jV,spV,hhi]) (fun _ h=>h.elim) f1 hG
    obtain⟨m0,m1⟩:=bQ x1
    obtain⟨p0,p1,p2,p3,p4,p5,p6,p7⟩:=bH (f1r.heap (oR.heap hp1 rp) (fun h=>nbp h.symm))
    gi_wp2
    clear hy
    refine⟨rfl,(cO hR).mono ?_⟩
    have tk:=lG pA
    have HT:Hid ((parts s keys kids).take (j+1)=(parts s keys kids).take j++[(kids[j],⟨iW s keys j,iI s keys j⟩)]):=tk
    have HHI:Hid (iI s keys j=keys[j]):=hhi
    clear tk hhi pA
    rintro e W3 (⟨rfl,Y3,hJ3,hF3,hG3⟩|⟨rfl,Y3,hJ3,hF3,hG3⟩)
    ·have x3:=hF3.heap x1 hn
     obtain⟨g0,g1⟩:=bQ x3
     have gfr:=aJ x3
     have n3:¬ Y3 W.heap.size:=fun h=>by
      rcases hG3 _ h with h'|h'
      ·exact hn h'
      ·have:=(Array.getElem?_eq_some_iff.1 x1).1;omega
     have F3:Fr Y W W3:=f1.grow hF3 hG
     have G3:aK W Y Y3:=hG.trans f1.size hG3
     have y3:=aI x3 0 (.string (keys[j]))
     clear d0 d1 dfr b0 b1 f0 f1r f2 f3 f4 f5 f6 f7 hbox hJ hI hK
     gi_wp2
     go_roundw
     case rel =>
      refine⟨j+1,Y3,keys[j],by omega,by go_num,?_,F3.setCell (.inr (Nat.le_refl _)) _,G3,n3,?_⟩
      ·rw [HT.out]
       exact sJ _ _ _ _ hJ3 ((On.refl _ _).setCell n3 _)
      ·rw [rI,HHI.out]
       simpa using y3
     case measure=>simp [intOf];omega
    ·exact⟨rfl,.inr ⟨rfl,Y3,f1.grow hF3 hG,hG.trans f1.size hG3,hJ3⟩⟩
   ·skip
    obtain⟨w1,hw1d⟩:=nM (wr.setCell ⟨W.heap.size,1,none⟩ (.string s.hi))
    have hhi:iI s keys j=s.hi:=by simp [iI,hk]
    have x1:w1.heap[W.heap.size]?=some (.cells #[.string (iW s keys j),.string (s.hi)] 135):=by
     rw [← hw1d];have:=aI hbox 1 (.string s.hi);simpa using this
    have f1r:Fr (Bl.one W.heap.size) wr w1:=by rw [← hw1d];exact(Fr.refl (Bl.one W.heap.size) wr).setCell (p:=⟨W.heap.size,1,none⟩) (.inl rfl) _
    have f1:Fr Y W w1:=hF.grow f1r (fun k hk=>.inr (by simp only [Bl.one] at hk;omega))
    have o1:On Yr wr w1:=f1r.on (fun k hk=>⟨lJ _ _ _ hJ k hk,fun h=>by simp only [Bl.one] at h;subst h;exact hn hk⟩)
    have pA:=HA.out j hlt
    obtain⟨fn,tmps,assign,body,hy,hR⟩:=hY _ _ _ #[.int .i64 kids[j],.agg #[.string (iW s keys j),.string (s.hi)]] Bl.none Yr w1 (nO pA) (sJ _ _ _ _ hJ o1) (by simp [jV,spV,hhi]) (fun _ h=>h.elim) f1 hG
    obtain⟨m0,m1⟩:=bQ x1
    obtain⟨p0,p1,p2,p3,p4,p5,p6,p7⟩:=bH (f1r.heap (oR.heap hp1 rp) (fun h=>nbp h.symm))
    gi_wp2
    clear hy
    refine⟨rfl,(cO hR).mono ?_⟩
    have tk:=lG pA
    have HT:Hid ((parts s keys kids).take (j+1)=(parts s keys kids).take j++[(kids[j],⟨iW s keys j,iI s keys j⟩)]):=tk
    have HHI:Hid (iI s keys j=s.hi):=hhi
    clear tk hhi pA
    rintro e W3 (⟨rfl,Y3,hJ3,hF3,hG3⟩|⟨rfl,Y3,hJ3,hF3,hG3⟩)
    ·have x3:=hF3.heap x1 hn
     obtain⟨g0,g1⟩:=bQ x3
     have gfr:=aJ x3
     have n3:¬ Y3 W.heap.size:=fun h=>by
      rcases hG3 _ h with h'|h'
      ·exact hn h'
      ·have:=(Array.getElem?_eq_some_iff.1 x1).1;omega
     have F3:Fr Y W W3:=f1.grow hF3 hG
     have G3:aK W Y Y3:=hG.trans f1.size hG3
     have y3:=aI x3 0 (.string (s.hi))
     clear d0 d1 dfr b0 b1 f0 f1r f2 f3 f4 f5 f6 f7 hbox hJ hI hK
     gi_wp2
     go_roundw
     case rel =>
      refine⟨j+1,Y3,s.hi,by omega,by go_num,?_,F3.setCell (.inr (Nat.le_refl _)) _,G3,n3,?_⟩
      ·rw [HT.out]
       exact sJ _ _ _ _ hJ3 ((On.refl _ _).setCell n3 _)
      ·rw [rI,HHI.out]
       simpa using y3
     case measure=>simp [intOf];omega
    ·exact⟨rfl,.inr ⟨rfl,Y3,f1.grow hF3 hG,hG.trans f1.size hG3,hJ3⟩⟩
  ·obtain rfl:j=kids.length:=by omega
   have HJ:Hid (J (parts s keys kids) Yr wr):=by
    have e:(parts s keys kids).take kids.length=parts s keys kids:=by rw [← HL.out];exact List.take_length
    rw [e] at hJ;exact hJ
   clear hJ
   gi_wp2
   go_end0
   exact .inl ⟨fun h=>h,⟨_,rfl⟩,Yr,hF,hG,HJ.out⟩
end Go.Proofs.YtfnhmpcpeahfkaaGreat.Tree
