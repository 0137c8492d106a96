import Derived.Shelf.RegionOpen
import Derived.LoopNIn
import Derived.LoopIn
import Derived.Test.YtpifffkkgnbfpaaGreatP16
set_option linter.unusedSimpArgs false
set_option linter.unusedVariables false
set_option maxRecDepth 100000
set_option maxHeartbeats 8000000
namespace Go.Proofs.YtpifffkkgnbfpaaGreat.Tree
open Go.RowKit Go.Shelf Pages
attribute [local go_sem] Oper.semAt_some
def rV (x:Int×Sp) (args:Array Value) (S:Bl) (w:World):Prop:=args=#[.int .i64 x.1,spV x.2]
theorem pD (bw bp:Nat) (s:Sp) (kind ver root next:Int) (ka ia ea:Option Addr) (kc ic en ec:Nat) (data:ByteArray) (keys:List ByteArray) (kids:List Int) (Rd:Bl) (w:World)
  (hw:w.heap[bw]?=some (.cells #[.string s.lo,.string s.hi] 135)) (hp:w.heap[bp]?=some (.cells #[.int .i64 kind,.int .i64 ver,.int .i64 root,.int .i64 next,.slice ka keys.length kc,.slice ia kids.length ic,.slice ea en ec,.string data] 85))
  (hK:aH w Rd ka (keys.map .string)) (hI:aH w Rd ia (kids.map (.int .i64))) (rw_:Rd bw) (rp:Rd bp) (hkn:keys.length≤1000) (hin:kids.length≤1000) (hkc:keys.length≤kc) (hic:kids.length≤ic) :
  oJ Tryz.prog 140 #[.pointer (some ⟨bw,0,none⟩),.pointer (some ⟨bp,0,none⟩)] rV (parts s keys kids) Rd w:=by
 intro l J Jx Y W hon hRd sJ lJ sJx lJx hY h0
 refine callsIn_of_wp Tryz.func140 rfl trivial ?_ rfl
 simp only [Tryz.ntmps140,jA,jB,jN,Nat.reduceAdd,Nat.reduceSub,jR,jO,jP,jT,jE,jF]
 have hw1:=hon.heap hw rw_
 have hp1:=hon.heap hp rp
 obtain⟨a0,a1⟩:=cG hw1
 obtain⟨e0,e1,e2,e3,e4,e5,e6,e7⟩:=bL hp1
 have lw:=(hRd bw rw_).2
 have lp:=(hRd bp rp).2
 have hF0:∀ Z v,Fr Z W (W.alloc (.cells v 135)):=fun Z v=>(Fr.refl Z W).alloc _
 have hb0:=aA W (.cells #[.string s.lo,.string s.hi] 135)
 have lY:=lJ [] Y W h0
 have HA:Hid (∀ j (hj:j<kids.length),(parts s keys kids)[j]?=some (kids[j],⟨oG s keys j,nI s keys j⟩)):=fun j hj=>iP s keys kids j hj
 have HL:Hid ((parts s keys kids).length=kids.length):=fL s keys kids
 gi_wp2
 gi_loopw [11] (fun i wr=>∃ (j:Nat) (Yr:Bl) (hi:ByteArray),j≤kids.length∧i=.int .i64 j∧J ((parts s keys kids).take j) Yr wr∧Fr Y W wr∧aJ W Y Yr∧¬ Yr W.heap.size ∧
   wr.heap[W.heap.size]?=some (.cells #[.string (oG s keys j),.string hi] 135)) (fun i _=>kids.length-(intOf i).toNat)
 case atStart =>
  exact⟨0,Y,s.hi,Nat.zero_le _,rfl,by simpa using sJ _ _ _ _ h0 ((On.refl Y W).alloc lY _),hF0 _ _,aJ.refl _ _,fun h=>Nat.lt_irrefl _ (lY _ h),hb0⟩
 case round =>
  obtain⟨j,Yr,hi,hj,rfl,hJ,hF,hG,hn,hbox⟩:=hrel
  have oR:On Rd W wr:=hF.on (fun k hk=>⟨(hRd k hk).2,(hRd k hk).1⟩)
  obtain⟨b0,b1⟩:=cG (oR.heap hw1 rw_)
  obtain⟨f0,f1,f2,f3,f4,f5,f6,f7⟩:=bL (oR.heap hp1 rp)
  obtain⟨d0,d1⟩:=cG hbox
  have dfr:=aF hbox
  have lwr:=hF.size
  clear a0 a1 e0 e1 e2 e3 e4 e5 e6 e7 hb0 hF0
  by_cases hlt:j<kids.length
  ·obtain⟨ib,io,hia,hib,hic2⟩:=((hI.on hon).on oR).at hlt
   subst hia
   have nbw:W.heap.size≠bw:=by omega
   have nbp:W.heap.size≠bp:=by omega
   have nib:W.heap.size≠ib:=by have:=(hRd ib hib).2;omega
   by_cases hk:j<keys.length
   ·obtain⟨kb,ko,hka,hkb,hkc2⟩:=((hK.on hon).on oR).at hk
    subst hka
    have nkb:W.heap.size≠kb:=by have:=(hRd kb hkb).2;omega
    obtain⟨w1,hw1d⟩:=nM ((wr.setCell ⟨W.heap.size,1,none⟩ (.string s.hi)).setCell ⟨W.heap.size,1,none⟩ (.string keys[j]))
    have hhi:nI s keys j=keys[j]:=by simp [nI,hk]
    have x1:w1.heap[W.heap.size]?=some (.cells #[.string (oG s keys j),.string (keys[j])] 135):=by
     rw [← hw1d];have:=aD (aD hbox 1 (.string s.hi)) 1 (.string keys[j]);simpa using this
    have f1r:Fr (Bl.one W.heap.size) wr w1:=by rw [← hw1d];exact((Fr.refl (Bl.one W.heap.size) wr).setCell (p:=⟨W.heap.size,1,none⟩) (.inl rfl) _).setCell (p:=⟨W.heap.size,1,none⟩) (.inl rfl) _
    have f1:Fr Y W w1:=hF.grow f1r (fun k hk=>.inr (by simp only [Bl.one] at hk;omega))
    have o1:On Yr wr w1:=f1r.on (fun k hk=>⟨lJ _ _ _ hJ k hk,fun h=>by simp only [Bl.one] at h;subst h;exact hn hk⟩)
    have pA:=HA.out j hlt
    obtain⟨fn,tmps,assign,body,hy,hR⟩:=hY _ _ _ #[.int .i64 kids[j],.agg #[.string (oG s keys j),.string (keys[j])]] Bl.none Yr w1 (uQ pA) (sJ _ _ _ _ hJ o1) (by simp [rV,spV,hhi]) (fun _ h=>h.elim) f1 hG
    obtain⟨m0,m1⟩:=cG x1
    obtain⟨p0,p1,p2,p3,p4,p5,p6,p7⟩:=bL (f1r.heap (oR.heap hp1 rp) (fun h=>nbp h.symm))
    gi_wp2
    clear hy
    refine⟨rfl,(dS hR).mono ?_⟩
    have tk:=tJ pA
    have HT:Hid ((parts s keys kids).take (j+1)=(parts s keys kids).take j++[(kids[j],⟨oG s keys j,nI s keys j⟩)]):=tk
    have HHI:Hid (nI s keys j=keys[j]):=hhi
    clear tk hhi pA
    rintro e W3 (⟨rfl,Y3,hJ3,hF3,hG3⟩|⟨rfl,Y3,hJ3,hF3,hG3⟩)
    ·have x3:=hF3.heap x1 hn
     obtain⟨g0,g1⟩:=cG x3
     have gfr:=aF x3
     have n3:¬ Y3 W.heap.size:=fun h=>by
      rcases hG3 _ h with h'|h'
      ·exact hn h'
      ·have:=(gL x1);omega
     have F3:Fr Y W W3:=f1.grow hF3 hG
     have G3:aJ W Y Y3:=hG.trans f1.size hG3
     have y3:=aD x3 0 (.string (keys[j]))
     clear d0 d1 dfr b0 b1 f0 f1r f2 f3 f4 f5 f6 f7 hbox hJ hI hK
     gi_wp2
     go_roundw
     case rel =>
      refine⟨j+1,Y3,keys[j],by omega,by go_num,?_,F3.setCell (.inr (jU _)) _,G3,n3,?_⟩
      ·rw [HT.out]
       exact sJ _ _ _ _ hJ3 ((On.refl _ _).setCell n3 _)
      ·rw [Hg,HHI.out]
       simpa using y3
     case measure=>simp [intOf];omega
    ·clear d0 d1 dfr b0 b1 f0 f1r f2 f3 f4 f5 f6 f7 hbox hJ hI hK
     gi_wp2
     refine bodyPost_ret (results_none rfl _ _ _) rfl ?_
     refine⟨⟨_,rfl⟩,Y3,f1.grow hF3 hG,hG.trans f1.size hG3,.inr ⟨_,?_,?_,hJ3⟩⟩
     ·rw [← HT.out];exact List.take_prefix _ _
     ·simp
   ·skip
    obtain⟨w1,hw1d⟩:=nM (wr.setCell ⟨W.heap.size,1,none⟩ (.string s.hi))
    have hhi:nI s keys j=s.hi:=by simp [nI,hk]
    have x1:w1.heap[W.heap.size]?=some (.cells #[.string (oG s keys j),.string (s.hi)] 135):=by
     rw [← hw1d];have:=aD hbox 1 (.string s.hi);simpa using this
    have f1r:Fr (Bl.one W.heap.size) wr w1:=by rw [← hw1d];exact(Fr.refl (Bl.one W.heap.size) wr).setCell (p:=⟨W.heap.size,1,none⟩) (.inl rfl) _
    have f1:Fr Y W w1:=hF.grow f1r (fun k hk=>.inr (by simp only [Bl.one] at hk;omega))
    have o1:On Yr wr w1:=f1r.on (fun k hk=>⟨lJ _ _ _ hJ k hk,fun h=>by simp only [Bl.one] at h;subst h;exact hn hk⟩)
    have pA:=HA.out j hlt
    obtain⟨fn,tmps,assign,body,hy,hR⟩:=hY _ _ _ #[.int .i64 kids[j],.agg #[.string (oG s keys j),.string (s.hi)]] Bl.none Yr w1 (uQ pA) (sJ _ _ _ _ hJ o1) (by simp [rV,spV,hhi]) (fun _ h=>h.elim) f1 hG
    obtain⟨m0,m1⟩:=cG x1
    obtain⟨p0,p1,p2,p3,p4,p5,p6,p7⟩:=bL (f1r.heap (oR.heap hp1 rp) (fun h=>nbp h.symm))
    gi_wp2
    clear hy
    refine⟨rfl,(dS hR).mono ?_⟩
    have tk:=tJ pA
    have HT:Hid ((parts s keys kids).take (j+1)=(parts s keys kids).take j++[(kids[j],⟨oG s keys j,nI s keys j⟩)]):=tk
    have HHI:Hid (nI s keys j=s.hi):=hhi
    clear tk hhi pA
    rintro e W3 (⟨rfl,Y3,hJ3,hF3,hG3⟩|⟨rfl,Y3,hJ3,hF3,hG3⟩)
    ·have x3:=hF3.heap x1 hn
     obtain⟨g0,g1⟩:=cG x3
     have gfr:=aF x3
     have n3:¬ Y3 W.heap.size:=fun h=>by
      rcases hG3 _ h with h'|h'
      ·exact hn h'
      ·have:=(gL x1);omega
     have F3:Fr Y W W3:=f1.grow hF3 hG
     have G3:aJ W Y Y3:=hG.trans f1.size hG3
     have y3:=aD x3 0 (.string (s.hi))
     clear d0 d1 dfr b0 b1 f0 f1r f2 f3 f4 f5 f6 f7 hbox hJ hI hK
     gi_wp2
     go_roundw
     case rel =>
      refine⟨j+1,Y3,s.hi,by omega,by go_num,?_,F3.setCell (.inr (jU _)) _,G3,n3,?_⟩
      ·rw [HT.out]
       exact sJ _ _ _ _ hJ3 ((On.refl _ _).setCell n3 _)
      ·rw [Hg,HHI.out]
       simpa using y3
     case measure=>simp [intOf];omega
    ·clear d0 d1 dfr b0 b1 f0 f1r f2 f3 f4 f5 f6 f7 hbox hJ hI hK
     gi_wp2
     refine bodyPost_ret (results_none rfl _ _ _) rfl ?_
     refine⟨⟨_,rfl⟩,Y3,f1.grow hF3 hG,hG.trans f1.size hG3,.inr ⟨_,?_,?_,hJ3⟩⟩
     ·rw [← HT.out];exact List.take_prefix _ _
     ·simp
  ·obtain rfl:j=kids.length:=by omega
   have HJ:Hid (J (parts s keys kids) Yr wr):=by
    have e:(parts s keys kids).take kids.length=parts s keys kids:=by rw [← HL.out];exact List.take_length
    rw [e] at hJ;exact hJ
   clear hJ
   gi_wp2
   go_end0
   exact⟨⟨_,rfl⟩,Yr,hF,hG,.inl HJ.out⟩
attribute [local go_sem] Oper.semAt_some
def eS (fs:Fs):Nat→Nat→List (Nat×Pg)→Prop
 | _,rest,[]=>rest=0
 | place,rest,x :: l=>x.1=place∧0<rest∧fs.has place x.2∧x.2.kind=4∧x.2.data.size=min rest 240∧∃ nx:Nat,x.2.next=nx∧(nx=0↔rest-x.2.data.size=0)∧eS fs nx (rest-x.2.data.size) l
def qCg (x:Nat×Pg) (args:Array Value) (S:Bl) (w:World):Prop:=∃ v,args=#[.int .i64 x.1,v]∧Yk w S x.2 v
theorem eU {w:World} {β:Nat} {a b c:Value} {t:TypeId} (h:w.heap[β]?=some (.cells #[a,b,c] t)):w.cell? ⟨β,0,none⟩=some a∧w.cell? ⟨β,1,none⟩=some b∧w.cell? ⟨β,2,none⟩=some c:=by
 simp [World.cell?,h]
theorem Eb (be bt β:Nat) (sv lv:Value) (fs:Fs) (root:Int) (ca:Option Addr) (cn cc:Nat) (k v:ByteArray) (size over:Nat) (xs:List (Nat×Pg)) (Rd:Bl) (w:World)
  (he:w.heap[be]?=some (.cells #[.string k,.string v,.int .i64 size,.int .i64 over] 108)) (ht:w.heap[bt]?=some (.cells (tA β root ca cn cc) 95))
  (hf:aG w β sv lv fs) (hl:(fs.life==0)=false) (re:Rd be) (rt:Rd bt) (rf:∀ k,fpF β sv lv k→Rd k) (hsz:size≤1000000) (ho:(over=0∧xs=[])∨(0<over∧eS fs over size xs)) :
  oJ Tryz.prog 111 #[.pointer (some ⟨be,0,none⟩),.pointer (some ⟨bt,0,none⟩)] qCg xs Rd w:=by
 intro l J Jx Y W hon hRd sJ lJ sJx lJx hY h0
 refine callsIn_of_wp Tryz.func111 rfl trivial ?_ rfl
 simp only [Tryz.ntmps111,jA,jB,jN,Nat.reduceAdd,Nat.reduceSub,jR,jO,jP,jT,jE,jF]
 have he1:=hon.heap he re
 have ht1:=hon.heap ht rt
 have hf1:=hf.on (hon.mono rf)
 obtain⟨a0,a1,a2,a3⟩:=iE he1
 have le_:=(hRd be re).2
 have lt_:=(hRd bt rt).2
 have lY:=lJ [] Y W h0
 rcases ho with⟨rfl,rfl⟩|⟨hov,hch⟩
 ·gi_wp2
  refine bodyPost_ret (results_none rfl _ _ _) rfl ?_
  exact⟨⟨_,rfl⟩,Y,Fr.refl _ _,aJ.refl _ _,.inl h0⟩
 ·have hovb:((over:Int)==0)=false:=by simp;omega
  have HC:Hid (eS fs over size xs):=hch
  clear hch
  gi_wp2
  gi_loopw [4,5] (fun pl rs wr=>∃ (q r:Nat) (pre post:List (Nat×Pg)) (Yr:Bl),pl=.int .i64 q∧rs=.int .i64 r∧r≤1000000∧xs=pre++post∧eS fs q r post∧J pre Yr wr∧Fr Y W wr∧aJ W Y Yr) (fun _ rs _=>(intOf rs).toNat)
  case atStart=>exact⟨over,size,[],xs,Y,rfl,rfl,hsz,rfl,HC.out,h0,Fr.refl _ _,aJ.refl _ _⟩
  case round =>
   obtain⟨q,r,pre,post,Yr,rfl,rfl,hr,hx,hch,hJ,hF,hG⟩:=hrel
   have oR:On Rd W wr:=hF.on (fun k hk=>⟨(hRd k hk).2,(hRd k hk).1⟩)
   have ht2:=oR.heap ht1 rt
   have hf2:=hf1.on (oR.mono rf)
   obtain⟨b0,b1,b2⟩:=eU ht2
   clear a0 a1 a2 a3
   cases post with
   | nil =>
    obtain rfl:r=0:=hch
    have HX:Hid (J xs Yr wr):=by show J xs Yr wr;rw [hx];simpa using hJ
    clear hJ hx
    gi_wp2
    go_end0
    exact⟨⟨_,rfl⟩,Yr,hF,hG,.inl HX.out⟩
   | cons x post =>
    obtain⟨rfl,hr0,hhas,hk4,hds,nx,hnx,hiff,hrest⟩:=hch
    obtain⟨q,g⟩:=x
    dsimp only at *
    have hrp:(0:Int)<(r:Int):=by omega
    have k4:(g.kind==4)=true:=by simp [hk4]
    obtain⟨m,hm⟩:∃ m,m=r-g.data.size:=⟨_,rfl⟩
    rw [← hm] at hrest hiff
    obtain⟨bz,hbz⟩:∃ bz,bz=decide (m=0):=⟨_,rfl⟩
    have e1:(g.next==0)=bz:=by
     rw [hnx,hbz,Bool.eq_iff_iff]
     simp only [beq_iff_eq,decide_eq_true_eq]
     omega
    have e2:((m:Int)==0)=bz:=by
     rw [hbz,Bool.eq_iff_iff]
     simp only [beq_iff_eq,decide_eq_true_eq]
     omega
    have hsub:(r:Int)-(g.data.size:Int)=(m:Int):=by omega
    have HM:Hid (m<r∧m≤1000000):=by show _∧_;omega
    have HNX:Hid (g.next=(nx:Int)):=hnx
    have HX:Hid (xs=pre++(q,g) :: post):=hx
    have HREST:Hid (eS fs nx m post):=hrest
    have hLd:=Cs β sv lv fs root ca cn cc q g wr hf2 hl hhas
    have hsplit:(r≤240∧((g.data.size:Int) != (r:Int))=false)∨(240<r∧((g.data.size:Int) != 240)=false):=by
     by_cases h:r≤240
     ·refine .inl ⟨h,?_⟩;simp;omega
     ·refine .inr ⟨by omega,?_⟩;simp;omega
    have HK:Hid (g.kind=4):=hk4
    clear hk4 hds hnx hx hrest hiff hm hbz hhas
    rcases hsplit with⟨hr2,hne⟩|⟨hr2,hne⟩
    all_goals
     gi_wp2_with (refine⟨trivial,rfl,?_⟩;gi_at_call 112;refine(callsIn_wide.2 hLd).mono ?_;rintro e W2 ⟨vv,rfl,⟨ka,ia,ea,kc,ic,ec,rfl,q1,q2,q3,qq⟩,hb2⟩;obtain⟨W3,hW3⟩:=nM (W2.alloc (pgO g ka ia ea kc ic ec));have x3:W3.heap[W2.heap.size]?=some (pgO g ka ia ea kc ic ec):=hW3▸aA W2 _;obtain⟨m0,m1,m2,m3,m4,m5,m6,m7⟩:=bL x3;have f3:Fr Bl.none wr W3:=(Fr.of_below hb2).trans (hW3▸(Fr.refl _ W2).alloc _);have F3:Fr Y W W3:=hF.trans (f3.mono (fun _ h=>h.elim));have hJ3:=sJ _ _ _ _ hJ (f3.on (fun k hk=>⟨lJ _ _ _ hJ k hk,fun h=>h⟩));have o3:On (New wr W2) W2 W3:=hW3▸(On.refl _ W2).alloc (fun k hk=>hk.2) _;have l3:∀ k,New wr W2 k→¬ Yr k∧k<W3.heap.size:=(fun k hk=>⟨fun hy=>by have:=lJ _ _ _ hJ k hy;have:=hk.1;omega,jY hk.2 o3.size⟩);obtain⟨fn,tmps,assign,body,hy,hR⟩:=hY pre (q,g) post #[.int .i64 q,.agg #[.int .i64 4,.int .i64 g.ver,.int .i64 g.root,.int .i64 g.next,.slice ka g.keys.length kc,.slice ia g.kids.length ic,.slice ea g.ents.length ec,.string g.data]] (New wr W2) Yr W3 HX.out hJ3 ⟨_,rfl,ka,ia,ea,kc,ic,ec,by rw [HK.out],q1.on o3,q2.on o3,q3.on o3,qq⟩ l3 F3 hG)
     refine⟨rfl,(dS hR).mono ?_⟩
     clear hy hR hLd
     rintro e W4 (⟨rfl,Y4,hJ4,hF4,hG4⟩|⟨rfl,Y4,hJ4,hF4,hG4⟩)
     ·have x4:=hF4.heap x3 (fun hy=>by have:=lJ _ _ _ hJ _ hy;have:=hb2.size;omega)
      obtain⟨n0,n1,n2,n3,n4,n5,n6,n7⟩:=bL x4
      clear m0 m1 m2 m3 m4 m5 m6 m7 b0 b1 b2 x3 x4
      gi_wp2
      go_roundw
      case rel=>exact⟨nx,m,pre++[(q,g)],post,Y4,by rw [HNX.out],rfl,HM.out.2,by rw [HX.out];simp,HREST.out,hJ4,F3.grow hF4 hG,hG.trans F3.size hG4⟩
      case measure=>have:=HM.out.1;simp [intOf];omega
     ·clear m0 m1 m2 m3 m4 m5 m6 m7 b0 b1 b2 x3
      gi_wp2
      refine bodyPost_ret (results_none rfl _ _ _) rfl ?_
      refine⟨⟨_,rfl⟩,Y4,F3.grow hF4 hG,hG.trans F3.size hG4,.inr ⟨_,⟨post,?_⟩,?_,hJ4⟩⟩
      ·rw [HX.out];simp
      ·simp
variable {fs:Fs} {h p:Nat} {ks:List ByteArray} {s:Sp} {u:List Bool}
structure En where
 e:Ent
 ch:List (Nat×Pg)
inductive T where
 | leaf (place:Nat) (es:List En)
 | branch (place:Nat) (ks:List ByteArray) (kids:List T)
def T.place:T→Nat
 | .leaf p _=>p
 | .branch p _ _=>p
def En.ok (fs:Fs) (x:En):Prop:=∃ size over:Nat,x.e.size=size∧x.e.over=over∧size≤400∧((over=0∧x.ch=[])∨(0<over∧eS fs over size x.ch))
def En.pages (x:En):List Nat:=x.ch.map (·.1)
def bG (fs:Fs):Nat→T→Sp→Prop
 | 0,.leaf p es,s=>∃ g,fs.has p g∧g.kind=3∧g.ents=es.map (·.e)∧es≠[]∧(∀ x∈es,s.has x.e.key=true)∧∀ x∈es,x.ok fs
 | h+1,.branch p ks kids,s=>∃ g,fs.has p g∧g.kind=2∧g.keys=ks∧g.kids=kids.map (fun t=>(t.place:Int))∧kids.length=ks.length+1 ∧
   (∃ h0:0<ks.length,lt s.lo ks[0]=true∧s.has (ks[ks.length-1])=true)∧∀ x∈parts s ks kids,bG fs h x.1 x.2
 | _,_,_=>False
def T.pages:Nat→T→List Nat
 | _,.leaf p es=>p :: es.flatMap En.pages
 | 0,.branch p _ _=>[p]
 | h+1,.branch p _ kids=>p :: kids.flatMap (T.pages h)
def T.subs:Nat→T→List (Nat×T)
 | 0,t=>[(0,t)]
 | h+1,.leaf p es=>[(h+1,.leaf p es)]
 | h+1,.branch p ks kids=>(h+1,.branch p ks kids) :: kids.flatMap (T.subs h)
variable {kids:List T} {t:T}
theorem qAo {s:ByteArray} {g g':Pg} (h:Ep s g) (h':Ep s g'):g=g':=h.2.2.2.trans h'.2.2.2.symm
theorem sO {g g':Pg} (h:fs.has p g) (h':fs.has p g'):g=g':=qAo h.2 h'.2
theorem Iq:∀ {l l':List (Nat×Pg)} {p r:Nat},eS fs p r l→eS fs p r l'→l=l'
 | [],[],_,_,_,_=>rfl
 | [],x :: l',_,r,h,h'=>by
  obtain⟨_,h0,_⟩:=h'
  have:r=0:=h
  omega
 | x :: l,[],_,r,h,h'=>by
  obtain⟨_,h0,_⟩:=h
  have:r=0:=h'
  omega
 | x :: l,x' :: l',p,r,h,h'=>by
  obtain⟨a1,a2,a3,a4,a5,nx,a6,a7,a8⟩:=h
  obtain⟨b1,b2,b3,b4,b5,nx',b6,b7,b8⟩:=h'
  have e:=sO a3 b3
  have en:nx=nx':=by have:=a6.symm.trans ((congrArg Pg.next e).trans b6);omega
  subst en
  rw [← e] at b8
  have ex:x=x':=Prod.ext (a1.trans b1.symm) e
  rw [ex,Iq a8 b8]
theorem uP (ht:bG fs h t s):∃ g,fs.has t.place g∧((h=0∧g.kind=3)∨(0<h∧g.kind=2)):=by
 cases h with
 | zero =>
  cases t with
  | leaf p es=>obtain⟨g,hg,hk,_⟩:=ht;exact⟨g,hg,.inl ⟨rfl,hk⟩⟩
  | branch p ks kids=>exact ht.elim
 | succ h =>
  cases t with
  | leaf p es=>exact ht.elim
  | branch p ks kids=>obtain⟨g,hg,hk,_⟩:=ht;exact⟨g,hg,.inr ⟨by omega,hk⟩⟩
theorem qBf:∀ {l l':List En},(∀ x∈l,x.ok fs)→(∀ x∈l',x.ok fs)→l.map (·.e)=l'.map (·.e)→l=l'
 | [],[],_,_,_=>rfl
 | [],x :: l',_,_,h=>by simp at h
 | x :: l,[],_,_,h=>by simp at h
 | x :: l,x' :: l',h,h',e=>by
  simp only [List.map_cons,List.cons.injEq] at e
  obtain⟨e1,e2⟩:=e
  have r:=qBf (fun y hy=>h y (by simp [hy])) (fun y hy=>h' y (by simp [hy])) e2
  obtain⟨sz,ov,a1,a2,_,a3⟩:=h x (by simp)
  obtain⟨sz',ov',b1,b2,_,b3⟩:=h' x' (by simp)
  have es:sz=sz':=by have:=a1.symm.trans ((congrArg Ent.size e1).trans b1);omega
  have eo:ov=ov':=by have:=a2.symm.trans ((congrArg Ent.over e1).trans b2);omega
  subst es eo
  have ec:x.ch=x'.ch:=by
   rcases a3 with⟨h0,hc⟩|⟨h0,hc⟩
   ·rcases b3 with⟨_,hc'⟩|⟨h1,_⟩
    ·rw [hc,hc']
    ·omega
   ·rcases b3 with⟨h1,_⟩|⟨_,hc'⟩
    ·omega
    ·exact Iq hc hc'
  have ex:x=x':=by
   cases x;cases x';simp only at e1 ec;rw [e1,ec]
  rw [ex,r]
theorem Bm:∀ {h h':Nat} {t t':T} {s s':Sp},bG fs h t s→bG fs h' t' s'→t.place=t'.place→h=h'∧t=t':=by
 intro h
 induction h with
 | zero =>
  intro h' t t' s s' ht ht' hp
  cases t with
  | branch p ks kids=>exact ht.elim
  | leaf p es =>
   obtain⟨g,hg,hk,he,hne,_,hok⟩:=ht
   cases h' with
   | zero =>
    cases t' with
    | branch p' ks' kids'=>exact ht'.elim
    | leaf p' es' =>
     obtain⟨g',hg',hk',he',hne',_,hok'⟩:=ht'
     have hp':p=p':=hp
     subst hp'
     have e:=sO hg hg'
     refine⟨rfl,?_⟩
     rw [qBf hok hok' (by rw [← he,← he',e])]
   | succ h' =>
    cases t' with
    | leaf p' es'=>exact ht'.elim
    | branch p' ks' kids' =>
     obtain⟨g',hg',hk',_⟩:=ht'
     have hp':p=p':=hp
     subst hp'
     have e:=sO hg hg'
     rw [e] at hk
     omega
 | succ h ih =>
  intro h' t t' s s' ht ht' hp
  cases t with
  | leaf p es=>exact ht.elim
  | branch p ks kids =>
   obtain⟨g,hg,hk,hks,hkd,hlen,_,hall⟩:=ht
   cases h' with
   | zero =>
    cases t' with
    | branch p' ks' kids'=>exact ht'.elim
    | leaf p' es' =>
     obtain⟨g',hg',hk',_⟩:=ht'
     have hp':p=p':=hp
     subst hp'
     have e:=sO hg hg'
     rw [e] at hk
     omega
   | succ h' =>
    cases t' with
    | leaf p' es'=>exact ht'.elim
    | branch p' ks' kids' =>
     obtain⟨g',hg',hk',hks',hkd',hlen',_,hall'⟩:=ht'
     have hp':p=p':=hp
     subst hp'
     have e:=sO hg hg'
     subst e
     have e1:ks=ks':=hks.symm.trans hks'
     subst e1
     have e2:kids.map (fun t=>(t.place:Int))=kids'.map (fun t=>(t.place:Int)):=hkd.symm.trans hkd'
     have hl:kids.length=kids'.length:=by have:=congrArg List.length e2;simpa using this
     have each:∀ i (hi:i<kids.length) (hi':i<kids'.length),h=h'∧kids[i]=kids'[i]:=fun i hi hi'=>by
      have a1:=List.mem_of_getElem? (iP s ks kids i hi)
      have a2:=List.mem_of_getElem? (iP s' ks kids' i hi')
      have ep:((kids[i]).place:Int)=((kids'[i]).place:Int):=by
       have:=congrArg (fun l=>l[i]?) e2
       simpa [hi,hi'] using this
      exact ih (hall _ a1) (hall' _ a2) (by omega)
     have h0:0<kids.length:=by omega
     refine⟨by rw [(each 0 h0 (by omega)).1],?_⟩
     rw [List.ext_getElem hl (fun i hi hi'=>(each i hi hi').2)]
def on (u:List Bool) (p:Nat):Prop:=u[p]?=some true
def marks (u:List Bool) (ps:List Nat):List Bool:=ps.foldl (fun u p=>u.set p true) u
theorem sK (u:List Bool):marks u []=u:=rfl
theorem tT (u:List Bool) (p:Nat) (ps:List Nat):marks u (p :: ps)=marks (u.set p true) ps:=rfl
theorem kH (u:List Bool) (ps qs:List Nat):marks u (ps++qs)=marks (marks u ps) qs:=by simp [marks]
theorem gG:∀ (ps:List Nat) (u:List Bool),(marks u ps).length=u.length
 | [],_=>rfl
 | p :: ps,u=>by rw [tT,gG ps];simp
theorem Zy {p q:Nat}:on (u.set p true) q↔on u q∨(q=p∧p<u.length):=by
 unfold on
 rw [List.getElem?_set]
 by_cases h:p=q
 ·subst h
  by_cases hp:p<u.length
  ·simp [hp]
  ·simp [hp]
 ·rw [if_neg h]
  constructor
  ·exact fun h=>.inl h
  ·rintro(h'|⟨h',_⟩)
   ·exact h'
   ·exact absurd h'.symm h
theorem Cf:∀ {ps:List Nat} {u:List Bool} {q:Nat},on (marks u ps) q↔on u q∨(q∈ps∧q<u.length)
 | [],u,q=>by simp [sK]
 | p :: ps,u,q=>by
  rw [tT,Cf,Zy]
  simp only [List.length_set,List.mem_cons]
  constructor
  ·rintro((h|⟨rfl,h⟩)|⟨h,h'⟩)
   ·exact .inl h
   ·exact .inr ⟨.inl rfl,h⟩
   ·exact .inr ⟨.inr h,h'⟩
  ·rintro(h|⟨rfl|h,h'⟩)
   ·exact .inl (.inl h)
   ·exact .inl (.inr ⟨rfl,h'⟩)
   ·exact .inr ⟨h,h'⟩
theorem qEr (h:on u p):u.set p true=u:=by
 obtain⟨hp,hv⟩:=List.getElem?_eq_some_iff.1 h
 apply List.ext_getElem (by simp)
 intro i h1 h2
 rw [List.getElem_set]
 split
 ·subst_vars;exact hv.symm
 ·rfl
theorem Cr:∀ {ps:List Nat} {u:List Bool},(∀ p∈ps,on u p)→marks u ps=u
 | [],_,_=>rfl
 | p :: ps,u,h=>by
  rw [tT,qEr (h p (by simp))]
  exact Cr (fun q hq=>h q (by simp [hq]))
theorem Ir:∀ {l:List (Nat×Pg)} {p r:Nat},eS fs p r l→∀ x∈l,∃ g,fs.has x.1 g∧g.kind=4
 | [],_,_,_,x,hx=>by simp at hx
 | y :: l,p,r,h,x,hx=>by
  obtain⟨a1,a2,a3,a4,a5,nx,a6,a7,a8⟩:=h
  rcases List.mem_cons.1 hx with rfl|hx
  ·exact⟨_,a1▸a3,a4⟩
  ·exact Ir a8 x hx
theorem vY {x:En} (h:x.ok fs):∀ p∈x.pages,∃ g,fs.has p g∧g.kind=4:=by
 intro p hp
 obtain⟨sz,ov,_,_,_,h⟩:=h
 simp only [En.pages,List.mem_map] at hp
 obtain⟨y,hy,rfl⟩:=hp
 rcases h with⟨_,hc⟩|⟨_,hc⟩
 ·rw [hc] at hy;simp at hy
 ·exact Ir hc y hy
theorem mM (h:t∈kids):∃ s',(t,s')∈parts s ks kids:=by
 obtain⟨i,hi,rfl⟩:=List.getElem_of_mem h
 exact⟨_,List.mem_of_getElem? (iP s ks kids i hi)⟩
theorem nP:∀ {h:Nat} {t:T} {s:Sp},bG fs h t s→∀ x∈T.subs h t,∃ s',bG fs x.1 x.2 s'∧x.1≤h:=by
 intro h
 induction h with
 | zero =>
  intro t s ht x hx
  simp only [T.subs,List.mem_singleton] at hx
  subst hx
  exact⟨s,ht,jU _⟩
 | succ h ih =>
  intro t s ht x hx
  cases t with
  | leaf p es=>exact ht.elim
  | branch p ks kids =>
   simp only [T.subs,List.mem_cons,List.mem_flatMap] at hx
   rcases hx with rfl|⟨k,hk,hx⟩
   ·exact⟨s,ht,jU _⟩
   ·obtain⟨g,_,_,_,_,_,_,hall⟩:=ht
    obtain⟨s',hs'⟩:=mM (s:=s) (ks:=ks) hk
    obtain⟨s'',h1,h2⟩:=ih (hall _ hs') x hx
    exact⟨s'',h1,by omega⟩
theorem Bz:∀ {h:Nat} {t:T} {s:Sp},bG fs h t s→∀ p∈T.pages h t,(∃ x∈T.subs h t,x.2.place=p)∨∃ g,fs.has p g∧g.kind=4:=by
 intro h
 induction h with
 | zero =>
  intro t s ht p hp
  cases t with
  | branch q ks kids=>exact ht.elim
  | leaf q es =>
   obtain⟨g,_,_,_,_,_,hok⟩:=ht
   simp only [T.pages,List.mem_cons,List.mem_flatMap] at hp
   rcases hp with rfl|⟨x,hx,hp⟩
   ·exact .inl ⟨(0,.leaf p es),by simp [T.subs],rfl⟩
   ·exact .inr (vY (hok x hx) p hp)
 | succ h ih =>
  intro t s ht p hp
  cases t with
  | leaf q es=>exact ht.elim
  | branch q ks kids =>
   obtain⟨g,_,_,_,_,_,_,hall⟩:=ht
   simp only [T.pages,List.mem_cons,List.mem_flatMap] at hp
   rcases hp with rfl|⟨k,hk,hp⟩
   ·exact .inl ⟨(h+1,.branch p ks kids),by simp [T.subs],rfl⟩
   ·obtain⟨s',hs'⟩:=mM (s:=s) (ks:=ks) hk
    rcases ih (hall _ hs') p hp with⟨x,hx,he⟩|h4
    ·exact .inl ⟨x,by simp only [T.subs,List.mem_cons,List.mem_flatMap];exact .inr ⟨k,hk,hx⟩,he⟩
    ·exact .inr h4
theorem Ly (ht:bG fs h t s):∀ p∈T.pages h t,p<fs.safe.length:=by
 intro p hp
 rcases Bz ht p hp with⟨x,hx,rfl⟩|⟨g,hg,_⟩
 ·obtain⟨s',hs',_⟩:=nP ht x hx
  obtain⟨g,hg,_⟩:=uP hs'
  exact hg.1
 ·exact hg.1
def Shut (u:List Bool) (h:Nat) (t:T):Prop:=∀ x∈T.subs h t,on u x.2.place→∀ p∈T.pages x.1 x.2,on u p
theorem Ve:∀ x∈T.subs h t,∀ p∈T.pages x.1 x.2,p∈T.pages h t:=by
 induction h generalizing t with
 | zero=>intro x hx p hp;simp only [T.subs,List.mem_singleton] at hx;subst hx;exact hp
 | succ h ih =>
  intro x hx p hp
  cases t with
  | leaf q es=>simp only [T.subs,List.mem_singleton] at hx;subst hx;exact hp
  | branch q ks kids =>
   simp only [T.subs,List.mem_cons,List.mem_flatMap] at hx
   rcases hx with rfl|⟨k,hk,hx⟩
   ·exact hp
   ·simp only [T.pages,List.mem_cons,List.mem_flatMap]
    exact .inr ⟨k,hk,ih x hx p hp⟩
theorem Shut.after {h h':Nat} {t t':T} {s s':Sp} (ht:bG fs h t s) (ht':bG fs h' t' s') (hu:fs.safe.length≤u.length) (hs:Shut u h t):Shut (marks u (T.pages h' t')) h t:=by
 intro x hx hon p hp
 rw [Cf] at hon ⊢
 rcases hon with hon|⟨hm,_⟩
 ·exact .inl (hs x hx hon p hp)
 ·obtain⟨sx,hsx,_⟩:=nP ht x hx
  have hin:∃ y∈T.subs h' t',y.2.place=x.2.place:=by
   rcases Bz ht' _ hm with h1|⟨g,hg,hk⟩
   ·exact h1
   ·obtain⟨g',hg',hk'⟩:=uP hsx
    have:=sO hg hg'
    subst this
    omega
  obtain⟨y,hy,he⟩:=hin
  obtain⟨sy,hsy,_⟩:=nP ht' y hy
  obtain⟨e1,e2⟩:=Bm hsx hsy he.symm
  refine .inr ⟨Ve y hy p (by rw [← e1,← e2];exact hp),jY (Ly hsx p hp) hu⟩
theorem Shut.kid (hs:Shut u (h+1) (.branch p ks kids)) {k:T} (hk:k∈kids):Shut u h k:=by
 intro x hx
 exact hs x (by simp only [T.subs,List.mem_cons,List.mem_flatMap];exact .inr ⟨k,hk,hx⟩)
theorem Shut.down (ht:bG fs (h+1) (.branch p ks kids) s) (hs:Shut u (h+1) (.branch p ks kids)) {k:T} (hk:k∈kids):Shut (u.set p true) h k:=by
 intro x hx hon q hq
 rw [Zy] at hon ⊢
 rcases hon with hon|⟨he,_⟩
 ·exact .inl (hs.kid hk x hx hon q hq)
 ·have hk0:=ht
  obtain⟨g,_,_,_,_,_,_,hall⟩:=ht
  obtain⟨s',hs'⟩:=mM (s:=s) (ks:=ks) hk
  obtain⟨sx,hsx,hle⟩:=nP (hall _ hs') x hx
  obtain⟨e1,_⟩:=Bm hsx hk0 he
  omega
variable {B p ub:Nat} {Y:Bl} {fs:Fs} {g:Pg} {u:List Bool} {w w':World}
theorem pE (g:Pg) (s:Sp) (ka ia ea:Option Addr) (kc ic ec:Nat) (w:World) :
  Calls Tryz.prog 118 #[.agg #[.int .i64 g.kind,.int .i64 g.ver,.int .i64 g.root,.int .i64 g.next,.slice ka g.keys.length kc,.slice ia g.kids.length ic,.slice ea g.ents.length ec,.string g.data],.agg #[.string s.lo,.string s.hi]] w fun e w' =>
   e=.returned (.func (.func 140) #[] #[.pointer (some ⟨w.heap.size+1,0,none⟩),.pointer (some ⟨w.heap.size,0,none⟩)]) ∧
   w'.heap[w.heap.size]?=some (pgO g ka ia ea kc ic ec)∧w'.heap[w.heap.size+1]?=some (.cells #[.string s.lo,.string s.hi] 135)∧Below w.heap.size w w':=by
 have B:Below w.heap.size w ((w.alloc (pgO g ka ia ea kc ic ec)).alloc (.cells #[.string s.lo,.string s.hi] 135)):=(bA _ _).alloc (by simp) _
 have h1:((w.alloc (pgO g ka ia ea kc ic ec)).alloc (.cells #[.string s.lo,.string s.hi] 135)).heap[w.heap.size]?=some (pgO g ka ia ea kc ic ec):=aB _ (aA w _)
 have h2:((w.alloc (pgO g ka ia ea kc ic ec)).alloc (.cells #[.string s.lo,.string s.hi] 135)).heap[w.heap.size+1]?=some (.cells #[.string s.lo,.string s.hi] 135):=by
  have:=aA (w.alloc (pgO g ka ia ea kc ic ec)) (.cells #[.string s.lo,.string s.hi] 135);simpa using this
 go_enter Tryz.func118,Tryz.ntmps118
 go_wp2
 go_ret
 exact⟨rfl,h1,h2,B⟩
theorem Ec (root:Int) (β:Nat) (ca:Option Addr) (cn cc:Nat) (k v:ByteArray) (size over:Int) (w:World) :
  Calls Tryz.prog 79 #[.agg (tA β root ca cn cc),.agg #[.string k,.string v,.int .i64 size,.int .i64 over]] w fun e w' =>
   e=.returned (.func (.func 111) #[] #[.pointer (some ⟨w.heap.size+1,0,none⟩),.pointer (some ⟨w.heap.size,0,none⟩)]) ∧
   w'.heap[w.heap.size]?=some (.cells (tA β root ca cn cc) 95)∧w'.heap[w.heap.size+1]?=some (.cells #[.string k,.string v,.int .i64 size,.int .i64 over] 108)∧Below w.heap.size w w':=by
 have B:Below w.heap.size w ((w.alloc (.cells (tA β root ca cn cc) 95)).alloc (.cells #[.string k,.string v,.int .i64 size,.int .i64 over] 108)):=(bA _ _).alloc (by simp) _
 have h1:((w.alloc (.cells (tA β root ca cn cc) 95)).alloc (.cells #[.string k,.string v,.int .i64 size,.int .i64 over] 108)).heap[w.heap.size]?=some (.cells (tA β root ca cn cc) 95):=aB _ (aA w _)
 have h2:((w.alloc (.cells (tA β root ca cn cc) 95)).alloc (.cells #[.string k,.string v,.int .i64 size,.int .i64 over] 108)).heap[w.heap.size+1]?=some (.cells #[.string k,.string v,.int .i64 size,.int .i64 over] 108):=by
  have:=aA (w.alloc (.cells (tA β root ca cn cc) 95)) (.cells #[.string k,.string v,.int .i64 size,.int .i64 over] 108);simpa using this
 go_enter Tryz.func79,Tryz.ntmps79
 go_wp2
 go_ret
 exact⟨rfl,h1,h2,B⟩
attribute [local go_sem] Oper.semAt_some
def aP (w:World) (ub:Nat) (u:List Bool):Prop:=w.ownsRow 0 4 1 (.slice (some ⟨ub,0,none⟩) 4096 4096) 4096 (u.map .bool)
theorem aP.cell (h:aP w ub u)  (hp:p<4096) (hu:u.length=4096):w.cell? ⟨ub,p,none⟩=some (.bool (u[p]'(by omega))):=by
 have:=World.ownsRow.cellAt (w:=w) h p (by omega)
 rw [this]
 simp [hu,hp]
theorem aP.free (h:aP w ub u) (p:Nat):w.frozen? ⟨ub,p,none⟩=false:=World.ownsRow.frozenAt (w:=w) h p
theorem aP.set (h:aP w ub u) (p:Nat):aP (w.setCell ⟨ub,p,none⟩ (.bool true)) ub (u.set p true):=by
 have:=(World.ownsRow.stored (w:=w) h p (.bool true)).1
 unfold aP
 rw [List.map_set]
 exact this
theorem aP.on (h:aP w ub u) (ho:On Y w w') (hy:Y ub):aP w' ub u:=bK h ho (fun k hk=>by simp [Value.ownBlock] at hk;subst hk;exact hy)
theorem aP.lt (h:aP w ub u):ub<w.heap.size:=aX h (k:=ub) rfl
theorem aP.fr (h:aP w ub u) (f:Fr Y w w') (hy:¬ Y ub):aP w' ub u:=h.on (f.on (Z:=Bl.one ub) (fun k hk=>by simp only [Bl.one] at hk;subst hk;exact⟨h.lt,hy⟩)) rfl
theorem aP.apart {ub β:Nat} {sv lv:Value}   (h:aP w ub u) (hf:aG w β sv lv fs):¬ fpF β sv lv ub:=by
 obtain⟨_,h2⟩:=id h
 rcases h2 with⟨h',_⟩|⟨g,cap,cur,hv,_,hg,_⟩
 ·simp at h'
 ·simp only [Value.slice.injEq,Option.some.injEq,Addr.mk.injEq,and_true,true_and] at hv
  obtain⟨rfl,_⟩:=hv
  rintro(rfl|hk|hk)
  ·have:=hf.box;rw [hg] at this;simp at this
  ·exact aV hf.safe hg (by decide) hk
  ·exact aV hf.late hg (by decide) hk
theorem aP.nodef (h:aP w ub u) (hd:w.heap[ub]?=some (.deferred (some []))):False:=by
 obtain⟨_,hv⟩:=h
 rcases hv with⟨hv,_⟩|⟨g',cap,cur,hv,_,hg',_⟩
 ·simp at hv
 ·simp at hv
  obtain⟨rfl,_⟩:=hv
  rw [hd] at hg'
  simp at hg'
theorem qY {e:TypeId} {z:Nat} {v:Value} {n:Nat} {xs:List Value} {C:Nat} (h:w.ownsRow B e z v n xs) (ht:lG C w w'):w'.ownsRow B e z v n xs:=by
 obtain⟨h1,h2⟩:=h
 refine⟨h1,?_⟩
 rcases h2 with h2|⟨g,cap,cur,rfl,hb,hg,r⟩
 ·exact .inl h2
 ·exact .inr ⟨g,cap,cur,rfl,hb,ht.cells _ _ _ _ hg,r⟩
theorem aP.took (h:aP w ub u) (ht:lG B w w'):aP w' ub u:=qY h ht
theorem Fr.took {a w w':World}  (h:Fr Y a w) (ht:lG B w w') (hB:a.heap.size≤B):Fr Y a w' :=
 ⟨ht.os.trans h.os,ht.tape.trans h.tape,ht.output.trans h.output,by rw [ht.size];exact h.size,fun k hk hy=>(ht.low k (by omega)).trans (h.block k hk hy)⟩
theorem qV (h:fs.has p g) (hk:g.kind=3):g.keys=[]∧g.kids=[]:=by
 obtain⟨_,_,_,_,rfl⟩:=h
 revert hk
 unfold dD kX
 split
 ·intro h;simp at h
 ·split
  ·intro h;simp at h
  ·split
   ·intro _;exact⟨rfl,rfl⟩
   ·split
    ·intro h;simp at h
    ·rename_i h3 _
     intro h;simp only at h;omega
theorem wU (h:fs.has p g) (hk:g.kind=2):g.ents=[]:=by
 obtain⟨_,_,_,_,rfl⟩:=h
 revert hk
 unfold dD kX
 split
 ·intro h;simp at h
 ·split
  ·intro _;rfl
  ·split
   ·intro h;simp at h
   ·split
    ·intro h;simp at h
    ·intro _;rfl
theorem iV (h:fs.has p g):g.keys.length≤1000∧g.kids.length≤1000∧g.ents.length≤1000:=by
 obtain⟨_,_,_,_,rfl⟩:=h
 have hp:=((fs.at p).data.toList.getD (aT (fs.at p).data.toList 0 1) 0).toNat_lt
 unfold dD kX
 split
 ·simp
 ·split
  ·refine⟨?_,?_,by simp⟩
   ·simp only [Hu];omega
   ·simp only [Hs];omega
  ·split
   ·refine⟨by simp,by simp,?_⟩
    simp only [Ii];omega
   ·split<;>simp
theorem Shut.afters {h:Nat} {t:T} {s:Sp}:∀ {l:List T} {u:List Bool},(∀ k∈l,∃ s',bG fs h k s')→bG fs h t s→fs.safe.length≤u.length→Shut u h t→Shut (marks u (l.flatMap (T.pages h))) h t
 | [],u,_,_,_,hs=>hs
 | k :: l,u,hl,ht,hu,hs=>by
  obtain⟨s',hs'⟩:=hl k (by simp)
  rw [List.flatMap_cons,kH]
  exact Shut.afters (fun k hk=>hl k (by simp [hk])) ht (by rw [gG];exact hu) (hs.after ht hs' hu)
theorem Md (β:Nat) (sv lv:Value) (fs:Fs) (hl:(fs.life==0)=false) (root:Int) (ca:Option Addr) (cn cc:Nat) (ub:Nat) (h:Nat)
  (ih:∀ (t:T) (s:Sp) (u:List Bool) (w:World),bG fs h t s→Shut u h t→u.length=4096→aG w β sv lv fs→aP w ub u →
   Calls Tryz.prog 86 #[.agg (tA β root ca cn cc),.int .i64 t.place,.agg #[.string s.lo,.string s.hi],.slice (some ⟨ub,0,none⟩) 4096 4096] w fun e w' =>
    (∃ v,e=.returned v)∧aP w' ub (marks u (T.pages h t))∧Fr (Bl.one ub) w w')
  (p:Nat) (ks:List ByteArray) (kids:List T) (s:Sp) (u:List Bool) (w:World) (ht:bG fs (h+1) (.branch p ks kids) s) (hs:Shut u (h+1) (.branch p ks kids)) (hu:u.length=4096) (hf:aG w β sv lv fs) (hU:aP w ub u) (hnot:¬ on u p) :
  Calls Tryz.prog 86 #[.agg (tA β root ca cn cc),.int .i64 p,.agg #[.string s.lo,.string s.hi],.slice (some ⟨ub,0,none⟩) 4096 4096] w fun e w' =>
    (∃ v,e=.returned v)∧aP w' ub (marks u (T.pages (h+1) (.branch p ks kids)))∧Fr (Bl.one ub) w w':=by
 have ht0:=ht
 obtain⟨g,hg,hk2,hks,hkd,hlen,⟨h0,c1,c2⟩,hall⟩:=ht
 have hp:p<4096:=jY hg.1 hf.small
 have hpi:(p:Int)<4096:=by omega
 obtain⟨W1,hW1⟩:=nM (((w.alloc (.cells (tA β root ca cn cc) 95)).alloc (.cells #[.string s.lo,.string s.hi] 135)).alloc (.cells #[.slice (some ⟨ub,0,none⟩) 4096 4096] 121))
 have B1:Below w.heap.size w W1:=hW1▸((bA _ _).alloc (by simp) _).alloc (by simp;omega) _
 have t1:W1.heap[w.heap.size]?=some (.cells (tA β root ca cn cc) 95):=hW1▸aB _ (aB _ (aA w _))
 have s1:W1.heap[w.heap.size+1]?=some (.cells #[.string s.lo,.string s.hi] 135):=by
  rw [← hW1];refine aB _ ?_;have:=aA (w.alloc (.cells (tA β root ca cn cc) 95)) (.cells #[.string s.lo,.string s.hi] 135);simpa using this
 have b1:W1.heap[w.heap.size+1+1]?=some (.cells #[.slice (some ⟨ub,0,none⟩) 4096 4096] 121):=by
  rw [← hW1];have:=aA ((w.alloc (.cells (tA β root ca cn cc) 95)).alloc (.cells #[.string s.lo,.string s.hi] 135)) (.cells #[.slice (some ⟨ub,0,none⟩) 4096 4096] 121);simpa using this
 have z1:W1.heap.size=w.heap.size+3:=by rw [← hW1];simp
 have hU1:aP W1 ub u:=hU.on (vV B1 (Y:=Bl.one ub) (fun k hk=>by simp only [Bl.one] at hk;subst hk;exact hU.lt)) rfl
 have hcu:=hU1.cell hp hu
 have hval:u[p]'(by omega)=false:=by
  cases hv:u[p]'(by omega) with
  | false=>rfl
  | true=>exact absurd (List.getElem?_eq_some_iff.2 ⟨by omega,hv⟩) hnot
 rw [hval] at hcu
 have hfz:=hU1.free
 obtain⟨W2,hW2⟩:=nM (W1.setCell ⟨ub,p,none⟩ (.bool true))
 have lub:=hU.lt
 have f2:Fr (Bl.one ub) W1 W2:=hW2▸(Fr.refl (Bl.one ub) W1).setCell (p:=⟨ub,p,none⟩) (.inl rfl) _
 have hU2:aP W2 ub (u.set p true):=hW2▸hU1.set p
 have t2:=f2.heap t1 (oN (by omega))
 have s2:=f2.heap s1 (oN (by omega))
 have b2:=f2.heap b1 (oN (by omega))
 obtain⟨tc0,tc1,tc2⟩:=eU t2
 obtain⟨sc0,sc1⟩:=cG s2
 have bc0:W2.cell? ⟨w.heap.size+1+1,0,none⟩=some (.slice (some ⟨ub,0,none⟩) 4096 4096):=by simp [World.cell?,b2]
 have bc1:W1.cell? ⟨w.heap.size+1+1,0,none⟩=some (.slice (some ⟨ub,0,none⟩) 4096 4096):=by simp [World.cell?,b1]
 have hf1:aG W1 β sv lv fs:=hf.on (vV B1 hf.lies)
 have hf2:aG W2 β sv lv fs:=hf1.on (f2.on (fun k hk=>⟨hf1.lies k hk,fun h=>by simp only [Bl.one] at h;subst h;exact hU1.apart hf1 hk⟩))
 obtain⟨sm1,sm2,sm3⟩:=iV hg
 have hNd:=rF β sv lv fs root ca cn cc p s g W2 hf2 hl hg (by simp [hk2]) (by rw [hks];exact h0) (by simp only [hks];exact c1) (by simp only [hks];exact c2) sm1 sm3
 have HK2:Hid (g.kind=2):=hk2
 have HKS:Hid (g.keys=ks):=hks
 have HKD:Hid (g.kids=kids.map (fun t=>(t.place:Int))):=hkd
 have HLN:Hid (kids.length=ks.length+1):=hlen
 have HU:Hid (u.length=4096):=hu
 clear hk2 hks hkd hlen hu hval z1
 refine(callsIn_wide (n:=0)).1 (callsIn_of_wp_marks Tryz.func86 rfl trivial ?_ rfl)
 simp only [Tryz.ntmps86,jA,jB,jN,Nat.reduceAdd,Nat.reduceSub,jR,jO,jP,jT,jE,jF]
 gi_wp2_with (first
  | (refine⟨trivial,rfl,?_⟩;gi_at_call 117;refine(callsIn_wide.2 hNd).mono ?_;clear hNd;rintro e W3 ⟨vv,rfl,⟨ka,ia,ea,kc,ic,ec,rfl,q1,q2,q3,qq⟩,hb3⟩;obtain⟨W4,hW4⟩:=nM (W3.alloc (pgO g ka ia ea kc ic ec));have x4:W4.heap[W3.heap.size]?=some (pgO g ka ia ea kc ic ec):=hW4▸aA W3 _;obtain⟨m0,m1,m2,m3,m4,m5,m6,m7⟩:=bL x4;have f4:Fr Bl.none W2 W4:=(Fr.of_below hb3).trans (hW4▸(Fr.refl _ W3).alloc _);have s4:=f4.heap s2 (fun h=>h);obtain⟨sd0,sd1⟩:=cG s4;have hKc:=pE g s ka ia ea kc ic ec W4)
  | (refine⟨trivial,rfl,?_⟩;gi_at_call 118;refine(callsIn_wide.2 hKc).mono ?_;clear hKc;rintro e W5 ⟨rfl,y1,y2,hb5⟩))
 have f5:Fr Bl.none W2 W5:=f4.trans (Fr.of_below hb5)
 have z4:W3.heap.size<W4.heap.size:=(gL x4)
 have z3:=hb3.size
 have hU5:aP W5 ub (u.set p true):=hU2.fr f5 (fun h=>h)
 have hf5:aG W5 β sv lv fs:=hf2.on (f5.on (fun k hk=>⟨hf2.lies k hk,fun h=>h⟩))
 have z5:W4.heap.size+1<W5.heap.size:=(gL y2)
 have zW2:w.heap.size+1+1<W2.heap.size:=(gL b2)
 have o35:On (New W2 W3) W3 W5:=(hW4▸(On.refl _ W3).alloc (fun k hk=>hk.2) _:On (New W2 W3) W3 W4).trans (vV hb5 (fun k hk=>by have:=hk.2;omega))
 let Rd:Bl:=fun k=>k=W4.heap.size∨k=W4.heap.size+1∨New W2 W3 k
 have hseq:=pD (W4.heap.size+1) W4.heap.size s g.kind g.ver g.root g.next ka ia ea kc ic g.ents.length ec g.data g.keys g.kids Rd W5 y2 y1 ((q1.on o35).mono (fun k hk=>.inr (.inr hk))) ((q2.on o35).mono (fun k hk=>.inr (.inr hk))) (.inr (.inl rfl)) (.inl rfl) sm1 sm2 qq.1 qq.2.1
 have hxs:parts s g.keys g.kids=(parts s ks kids).map (fun x=>((x.1.place:Int),x.2)):=by rw [HKS.out,HKD.out,pB]
 let I:List (Int×Sp)→Bl→World→Prop:=fun pre Y W=>aP W ub (marks (u.set p true) ((kids.take pre.length).flatMap (T.pages h)))∧Y=Bl.one ub
 have t5:=f5.heap t2 (fun h=>h)
 have b5:=f5.heap b2 (fun h=>h)
 have x5:=(hb5.block _ z4).trans x4
 refine fY (P:=Tryz.prog) (Has:=rV) (Rd:=Rd) rfl (enters_of Tryz.func140 (by kernel_rfl) rfl) hseq (fun x args S W hH=>by rw [hH];rfl) I (fun _ _ _ _=>False) ?_ (fun _ _ _ _ _ h=>h.elim) ?_ (fun _ _ _ _ h=>h.elim) (Bl.one ub) ⟨by simpa [sK] using hU5,rfl⟩ ?_ ?_ ?_ (fun _ _ _ _ _ _ _ _ _ h=>h.elim)
 ·rintro pre Y W W' ⟨h1,rfl⟩ ho
  exact⟨h1.on ho rfl,rfl⟩
 ·rintro pre Y W ⟨h1,rfl⟩ k hk
  simp only [Bl.one] at hk;subst hk;exact h1.lt
 ·rintro k (rfl|rfl|hk)
  ·exact⟨oN (by omega),by omega⟩
  ·exact⟨oN (by omega),by omega⟩
  ·exact⟨fun h=>by simp only [Bl.one] at h;have:=hk.1;omega,by have:=hk.2;omega⟩
 ·-- a round
  rintro l pre x rest args S Y' W hx ⟨hUp,rfl⟩ hH hS hFW hGW hl0 hl1 hl2 ⟨r,hr⟩
  have hjl:pre.length<kids.length:=by
   have:=congrArg List.length hx
   rw [hxs] at this
   simp [fL] at this
   omega
  obtain⟨kid,hkid⟩:=nM (kids[pre.length]'hjl)
  obtain⟨sp,hsp⟩:=nM ((⟨oG s ks pre.length,nI s ks pre.length⟩:Sp))
  have hpa:=iP s ks kids pre.length hjl
  rw [hkid,hsp] at hpa
  have hxe:x=((kid.place:Int),sp):=by
   have h1:(parts s g.keys g.kids)[pre.length]?=some x:=by rw [hx];simp
   rw [hxs,List.getElem?_map,hpa] at h1
   simpa using h1.symm
  have hst:bG fs h kid sp:=hall _ (List.mem_of_getElem? hpa)
  have hkm:kid∈kids:=hkid▸List.getElem_mem hjl
  subst hxe
  have hH':args=#[.int .i64 kid.place,.agg #[.string sp.lo,.string sp.hi]]:=hH
  subst hH'
  have zW:W5.heap.size≤W.heap.size:=hFW.size
  obtain⟨um,hum⟩:=nM (marks (u.set p true) ((kids.take pre.length).flatMap (T.pages h)))
  rw [hum] at hUp
  have hlm:um.length=4096:=by rw [← hum,gG];simpa using HU.out
  have hsh:Shut um h kid:=by
   rw [← hum]
   exact Shut.afters (fs:=fs) (fun k hk=>by obtain⟨s',hs'⟩:=mM (s:=s) (ks:=ks) (List.mem_of_mem_take hk);exact⟨s',hall _ hs'⟩) hst (by simp [HU.out];exact hf.small) (hs.down ht0 hkm)
  have tW:=hFW.heap t5 (oN (by omega))
  have bW:=hFW.heap b5 (oN (by omega))
  have hfW:aG W β sv lv fs:=hf5.on (hFW.on (fun k hk=>⟨hf5.lies k hk,fun h=>by simp only [Bl.one] at h;subst h;exact hU5.apart hf5 hk⟩))
  have HM:Hid (marks um (T.pages h kid)=marks (u.set p true) ((kids.take (pre.length+1)).flatMap (T.pages h))):=by
   show _=_
   rw [← hum,← kH,List.take_succ_eq_append_getElem hjl,List.flatMap_append,hkid]
   simp
  have ihk:=fun W' hf' hU'=>ih kid sp um W' hst hsh hlm hf' hU'
  clear hum hlm hkid hsp hpa hxs hx hsh
  unfold iZ
  gi_wp2
  refine⟨(Fr.refl _ W).alloc _,?_⟩
  intro W₂ hT
  have aW:Fr Bl.none W (W.alloc (.cells #[.string sp.lo,.string sp.hi] 135)):=(Fr.refl _ W).alloc _
  have x2:=hT.heap (aA W (.cells #[.string sp.lo,.string sp.hi] 135)) (by omega)
  have tX:=hT.heap (aW.heap tW (fun h=>h)) (by omega)
  have bX:=hT.heap (aW.heap bW (fun h=>h)) (by omega)
  have fX:Fr (Bl.one l) W W₂:=(aW.mono (fun _ h=>h.elim)).trans hT.fr
  have hUX:aP W₂ ub um:=hUp.fr fX (oN (by omega))
  have hfX:aG W₂ β sv lv fs:=hfW.on (fX.on (fun k hk=>⟨hfW.lies k hk,fun h=>by simp only [Bl.one] at h;have:=hf5.lies k hk;omega⟩))
  obtain⟨d0,d1,d2⟩:=eU tX
  obtain⟨e0,e1⟩:=cG x2
  have c0:W₂.cell? ⟨w.heap.size+1+1,0,none⟩=some (.slice (some ⟨ub,0,none⟩) 4096 4096):=by simp [World.cell?,bX]
  have hC:=ihk W₂ hfX hUX
  clear ihk
  gi_wp2_with (refine⟨trivial,rfl,?_⟩;gi_at_call 86;refine(CallsIn.inRound l (callsIn_wide.2 hC)).mono ?_;rintro e W₃ ⟨⟨v,rfl⟩,hU3,f3⟩)
  refine⟨Bl.one ub,⟨?_,rfl⟩,f3,aJ.refl _ _⟩
  rw [jK,List.length_singleton,← HM.out]
  exact hU3
 ·-- behind the loop
  rintro D Y' W hD hYD ⟨hUp,rfl⟩ hFW hGW hDW
  have xW:=hFW.heap x5 (oN (by omega))
  obtain⟨n0,n1,n2,n3,n4,n5,n6,n7⟩:=bL xW
  have he0:g.ents.length=0:=by rw [wU hg HK2.out];rfl
  have hm:Marks w.heap.size [mk D] W:=(Marks.nil w.heap.size W5).cons (fun D' _ h=>hFW.heap h (fun e=>by simp only [Bl.one] at e;subst e;exact hU5.nodef h)) (by have:=B1.size;omega) hDW hD
  have F0:Fr (Bl.one ub) w W:=((Fr.of_below B1).trans f2).trans ((f5.mono (fun _ h=>h.elim)).trans hFW)
  have HX:Hid (marks (u.set p true) ((kids.take (parts s g.keys g.kids).length).flatMap (T.pages h))=marks u (T.pages (h+1) (.branch p ks kids))):=by
   show _=_
   rw [fL,show g.kids.length=kids.length by rw [HKD.out];simp,List.take_length]
   rfl
  have HU':Hid (aP W ub (marks u (T.pages (h+1) (.branch p ks kids)))):=by rw [← HX.out];exact hUp
  clear hUp HX hxs
  gi_wp2
  gi_loopw [38] (fun i wr=>i=.int .i64 0∧wr=W) (fun _ _=>0)
  case atStart=>exact⟨rfl,rfl⟩
  case round =>
   obtain⟨rfl,hwr⟩:=hrel
   subst wr
   gi_wp2
   refine qBc rfl hm ?_
   intro w' ht'
   exact⟨⟨_,rfl⟩,HU'.out.took ht',F0.took ht' (jU _)⟩
attribute [local go_sem] Oper.semAt_some
theorem Wp (β:Nat) (sv lv:Value) (fs:Fs) (hl:(fs.life==0)=false) (root:Int) (ca:Option Addr) (cn cc:Nat) (ub:Nat)
  (p:Nat) (es:List En) (s:Sp) (u:List Bool) (w:World) (ht:bG fs 0 (.leaf p es) s) (hs:Shut u 0 (.leaf p es)) (hu:u.length=4096) (hf:aG w β sv lv fs) (hU:aP w ub u) (hnot:¬ on u p) :
  Calls Tryz.prog 86 #[.agg (tA β root ca cn cc),.int .i64 p,.agg #[.string s.lo,.string s.hi],.slice (some ⟨ub,0,none⟩) 4096 4096] w fun e w' =>
    (∃ v,e=.returned v)∧aP w' ub (marks u (T.pages 0 (.leaf p es)))∧Fr (Bl.one ub) w w':=by
 have ht0:=ht
 obtain⟨g,hg,hk3,hes,hne,hin,hok⟩:=ht
 have hp:p<4096:=jY hg.1 hf.small
 have hpi:(p:Int)<4096:=by omega
 obtain⟨W1,hW1⟩:=nM (((w.alloc (.cells (tA β root ca cn cc) 95)).alloc (.cells #[.string s.lo,.string s.hi] 135)).alloc (.cells #[.slice (some ⟨ub,0,none⟩) 4096 4096] 121))
 have B1:Below w.heap.size w W1:=hW1▸((bA _ _).alloc (by simp) _).alloc (by simp;omega) _
 have t1:W1.heap[w.heap.size]?=some (.cells (tA β root ca cn cc) 95):=hW1▸aB _ (aB _ (aA w _))
 have s1:W1.heap[w.heap.size+1]?=some (.cells #[.string s.lo,.string s.hi] 135):=by
  rw [← hW1];refine aB _ ?_;have:=aA (w.alloc (.cells (tA β root ca cn cc) 95)) (.cells #[.string s.lo,.string s.hi] 135);simpa using this
 have b1:W1.heap[w.heap.size+1+1]?=some (.cells #[.slice (some ⟨ub,0,none⟩) 4096 4096] 121):=by
  rw [← hW1];have:=aA ((w.alloc (.cells (tA β root ca cn cc) 95)).alloc (.cells #[.string s.lo,.string s.hi] 135)) (.cells #[.slice (some ⟨ub,0,none⟩) 4096 4096] 121);simpa using this
 have z1:W1.heap.size=w.heap.size+3:=by rw [← hW1];simp
 have hU1:aP W1 ub u:=hU.on (vV B1 (Y:=Bl.one ub) (fun k hk=>by simp only [Bl.one] at hk;subst hk;exact hU.lt)) rfl
 have hcu:=hU1.cell hp hu
 have hval:u[p]'(by omega)=false:=by
  cases hv:u[p]'(by omega) with
  | false=>rfl
  | true=>exact absurd (List.getElem?_eq_some_iff.2 ⟨by omega,hv⟩) hnot
 rw [hval] at hcu
 have hfz:=hU1.free
 obtain⟨W2,hW2⟩:=nM (W1.setCell ⟨ub,p,none⟩ (.bool true))
 have lub:=hU.lt
 have f2:Fr (Bl.one ub) W1 W2:=hW2▸(Fr.refl (Bl.one ub) W1).setCell (p:=⟨ub,p,none⟩) (.inl rfl) _
 have hU2:aP W2 ub (u.set p true):=hW2▸hU1.set p
 have t2:=f2.heap t1 (oN (by omega))
 have s2:=f2.heap s1 (oN (by omega))
 have b2:=f2.heap b1 (oN (by omega))
 obtain⟨tc0,tc1,tc2⟩:=eU t2
 obtain⟨sc0,sc1⟩:=cG s2
 have bc0:W2.cell? ⟨w.heap.size+1+1,0,none⟩=some (.slice (some ⟨ub,0,none⟩) 4096 4096):=by simp [World.cell?,b2]
 have bc1:W1.cell? ⟨w.heap.size+1+1,0,none⟩=some (.slice (some ⟨ub,0,none⟩) 4096 4096):=by simp [World.cell?,b1]
 have hf1:aG W1 β sv lv fs:=hf.on (vV B1 hf.lies)
 have hf2:aG W2 β sv lv fs:=hf1.on (f2.on (fun k hk=>⟨hf1.lies k hk,fun h=>by simp only [Bl.one] at h;subst h;exact hU1.apart hf1 hk⟩))
 obtain⟨sm1,sm2,sm3⟩:=iV hg
 have he0:0<g.ents.length:=by rw [hes,List.length_map];exact List.length_pos_iff.2 hne
 have hel:g.ents.length=es.length:=by rw [hes,List.length_map]
 have hin':∀ e∈g.ents,s.has e.key=true:=fun e he=>by rw [hes,List.mem_map] at he;obtain⟨x,hx,rfl⟩:=he;exact hin x hx
 have hNd:=sI β sv lv fs root ca cn cc p s g W2 hf2 hl hg (by simp [hk3]) (by simp [hk3]) he0 (hin' _ (List.getElem_mem _)) (hin' _ (List.getElem_mem _)) sm1 sm3
 obtain⟨nk,nkd⟩:=qV hg hk3
 have HK:Hid (g.kids=[]):=nkd
 have HE:Hid (g.ents=es.map (·.e)):=hes
 have HL:Hid (g.ents.length=es.length):=hel
 have HU:Hid (u.length=4096):=hu
 clear hk3 hes nk nkd hel hu hval z1
 refine(callsIn_wide (n:=0)).1 (callsIn_of_wp_marks Tryz.func86 rfl trivial ?_ rfl)
 simp only [Tryz.ntmps86,jA,jB,jN,Nat.reduceAdd,Nat.reduceSub,jR,jO,jP,jT,jE,jF]
 gi_wp2_with (first
  | (refine⟨trivial,rfl,?_⟩;gi_at_call 117;refine(callsIn_wide.2 hNd).mono ?_;clear hNd;rintro e W3 ⟨vv,rfl,⟨ka,ia,ea,kc,ic,ec,rfl,q1,q2,q3,qq⟩,hb3⟩;obtain⟨W4,hW4⟩:=nM (W3.alloc (pgO g ka ia ea kc ic ec));have x4:W4.heap[W3.heap.size]?=some (pgO g ka ia ea kc ic ec):=hW4▸aA W3 _;obtain⟨m0,m1,m2,m3,m4,m5,m6,m7⟩:=bL x4;have f4:Fr Bl.none W2 W4:=(Fr.of_below hb3).trans (hW4▸(Fr.refl _ W3).alloc _);have s4:=f4.heap s2 (fun h=>h);obtain⟨sd0,sd1⟩:=cG s4;have hKc:=pE g s ka ia ea kc ic ec W4)
  | (refine⟨trivial,rfl,?_⟩;gi_at_call 118;refine(callsIn_wide.2 hKc).mono ?_;clear hKc;rintro e W5 ⟨rfl,y1,y2,hb5⟩))
 have f5:Fr Bl.none W2 W5:=f4.trans (Fr.of_below hb5)
 have z4:W3.heap.size<W4.heap.size:=(gL x4)
 have z3:=hb3.size
 have hU5:aP W5 ub (u.set p true):=hU2.fr f5 (fun h=>h)
 have hf5:aG W5 β sv lv fs:=hf2.on (f5.on (fun k hk=>⟨hf2.lies k hk,fun h=>h⟩))
 have z5:W4.heap.size+1<W5.heap.size:=(gL y2)
 have zW2:w.heap.size+1+1<W2.heap.size:=(gL b2)
 have o35:On (New W2 W3) W3 W5:=(hW4▸(On.refl _ W3).alloc (fun k hk=>hk.2) _:On (New W2 W3) W3 W4).trans (vV hb5 (fun k hk=>by have:=hk.2;omega))
 let Rd:Bl:=fun k=>k=W4.heap.size∨k=W4.heap.size+1∨New W2 W3 k
 have hseq:=pD (W4.heap.size+1) W4.heap.size s g.kind g.ver g.root g.next ka ia ea kc ic g.ents.length ec g.data g.keys g.kids Rd W5 y2 y1 ((q1.on o35).mono (fun k hk=>.inr (.inr hk))) ((q2.on o35).mono (fun k hk=>.inr (.inr hk))) (.inr (.inl rfl)) (.inl rfl) sm1 sm2 qq.1 qq.2.1
 have hxs:parts s g.keys g.kids=[]:=by rw [HK.out];cases g.keys<;>rfl
 have HXS:Hid (parts s g.keys g.kids=[]):=hxs
 clear hxs
 let I:List (Int×Sp)→Bl→World→Prop:=fun pre Y W=>aP W ub (u.set p true)∧Y=Bl.one ub
 have t5:=f5.heap t2 (fun h=>h)
 have b5:=f5.heap b2 (fun h=>h)
 have x5:=(hb5.block _ z4).trans x4
 refine fY (P:=Tryz.prog) (Has:=rV) (Rd:=Rd) rfl (enters_of Tryz.func140 (by kernel_rfl) rfl) hseq (fun x args S W hH=>by rw [hH];rfl) I (fun _ _ _ _=>False) ?_ (fun _ _ _ _ _ h=>h.elim) ?_ (fun _ _ _ _ h=>h.elim) (Bl.one ub) ⟨hU5,rfl⟩ ?_ ?_ ?_ (fun _ _ _ _ _ _ _ _ _ h=>h.elim)
 ·rintro pre Y W W' ⟨h1,rfl⟩ ho
  exact⟨h1.on ho rfl,rfl⟩
 ·rintro pre Y W ⟨h1,rfl⟩ k hk
  simp only [Bl.one] at hk;subst hk;exact h1.lt
 ·rintro k (rfl|rfl|hk)
  ·exact⟨oN (by omega),by omega⟩
  ·exact⟨oN (by omega),by omega⟩
  ·exact⟨fun h=>by simp only [Bl.one] at h;have:=hk.1;omega,by have:=hk.2;omega⟩
 ·intro l pre x rest args S Y' W hx
  rw [HXS.out] at hx
  simp at hx
 ·-- behind the loop
  rintro D Y' W hD hYD ⟨hUp,rfl⟩ hFW hGW hDW
  have xW:=hFW.heap x5 (oN (by omega))
  obtain⟨n0,n1,n2,n3,n4,n5,n6,n7⟩:=bL xW
  have hm:Marks w.heap.size [mk D] W:=(Marks.nil w.heap.size W5).cons (fun D' _ h=>hFW.heap h (fun e=>by simp only [Bl.one] at e;subst e;exact hU5.nodef h)) (by have:=B1.size;omega) hDW hD
  have F0:Fr (Bl.one ub) w W:=((Fr.of_below B1).trans f2).trans ((f5.mono (fun _ h=>h.elim)).trans hFW)
  have tW:=hFW.heap t5 (oN (by omega))
  have bW:=hFW.heap b5 (oN (by omega))
  have hfW:aG W β sv lv fs:=hf5.on (hFW.on (fun k hk=>⟨hf5.lies k hk,fun h=>by simp only [Bl.one] at h;subst h;exact hU5.apart hf5 hk⟩))
  have zW:W5.heap.size≤W.heap.size:=hFW.size
  have qW:aH W (New W2 W3) ea (g.ents.flatMap Ent.cells):=(q3.on o35).on (hFW.on (fun k hk=>⟨by have:=hk.2;omega,fun h=>by simp only [Bl.one] at h;have:=hk.1;omega⟩))
  have hec:=qq.2.2
  clear q1 q2 q3
  gi_wp2
  refine wpIn_loop (fun a wr=>∃ (j:Nat) (ds:List Deferred) (x12 x39 x40 x41 x42 x43 x44 x50:Value),j≤g.ents.length∧a = { tmps:=#[.agg (tA β root ca cn cc),.int .i64 p,.agg #[.string s.lo,.string s.hi],.slice (some ⟨ub,0,none⟩) 4096 4096,.pointer (some ⟨w.heap.size,0,none⟩),undef,.pointer (some ⟨w.heap.size+1,0,none⟩),.pointer (some ⟨w.heap.size+1+1,0,none⟩),.pointer (some ⟨W3.heap.size,0,none⟩),undef,undef,undef,x12,undef,.slice (some ⟨ub,0,none⟩) 4096 4096,.int .i64 p,.pointer (some ⟨ub,p,none⟩),.bool false,.slice (some ⟨ub,0,none⟩) 4096 4096,.int .i64 p,.pointer (some ⟨ub,p,none⟩),.agg (tA β root ca cn cc),.int .i64 p,.agg #[.string s.lo,.string s.hi],.agg #[.int .i64 g.kind,.int .i64 g.ver,.int .i64 g.root,.int .i64 g.next,.slice ka g.keys.length kc,.slice ia g.kids.length ic,.slice ea g.ents.length ec,.string g.data],.agg #[.int .i64 g.kind,.int .i64 g.ver,.int .i64 g.root,.int .i64 g.next,.slice ka g.keys.length kc,.slice ia g.kids.length ic,.slice ea g.ents.length ec,.string g.data],.agg #[.string s.lo,.string s.hi],.func (.func 140) #[] #[.pointer (some ⟨W4.heap.size+1,0,none⟩),.pointer (some ⟨W4.heap.size,0,none⟩)],undef,undef,undef,undef,undef,undef,undef,.pointer (some ⟨W3.heap.size,6,none⟩),.slice ea g.ents.length ec,.int .i64 g.ents.length,.int .i64 j,x39,x40,x41,x42,x43,x44,undef,undef,undef,undef,undef,x50],defers:=ds } ∧
    aP wr ub (marks (u.set p true) ((es.take j).flatMap En.pages))∧Fr (Bl.one ub) W wr∧Marks w.heap.size ds wr) (fun a _=>g.ents.length-(intOf (a.tmps.getD 38 undef)).toNat) ?_ ?_
  ·exact⟨0,_,undef,undef,undef,undef,undef,undef,undef,undef,Nat.zero_le _,rfl,by simpa [sK] using hUp,Fr.refl _ _,hm⟩
  ·rintro a wr ⟨j,ds,x12,x39,x40,x41,x42,x43,x44,x50,hj,rfl,hUr,hFr,hMr⟩
   have tR:=hFr.heap tW (oN (by omega))
   have bR:=hFr.heap bW (oN (by omega))
   have hfR:aG wr β sv lv fs:=hfW.on (hFr.on (fun k hk=>⟨hfW.lies k hk,fun h=>by simp only [Bl.one] at h;subst h;exact hUp.apart hfW hk⟩))
   have zR:W.heap.size≤wr.heap.size:=hFr.size
   have qR:=qW.on (hFr.on (fun k hk=>⟨by have:=hk.2;omega,fun h=>by simp only [Bl.one] at h;have:=hk.1;omega⟩))
   by_cases hlt:j<g.ents.length
   ·have hje:j<es.length:=by rw [← HL.out];exact hlt
    obtain⟨E,hE⟩:=nM (g.ents[j])
    obtain⟨X,hX⟩:=nM (es[j])
    have hEX:E=X.e:=by rw [← hE,← hX];simp only [HE.out];simp
    have hXok:X.ok fs:=hok X (hX▸List.getElem_mem hje)
    obtain⟨eb,eo,hea,hebS,r0,r1,r2,r3⟩:=qR.ent hlt
    rw [hE] at r0 r1 r2 r3
    subst hea
    obtain⟨d0,d1,d2⟩:=eU tR
    have d3:wr.cell? ⟨w.heap.size+1+1,0,none⟩=some (.slice (some ⟨ub,0,none⟩) 4096 4096):=by simp [World.cell?,bR]
    obtain⟨Wa,hWa⟩:=nM (wr.alloc (.cells #[.string E.key,.string E.val,.int .i64 E.size,.int .i64 E.over] 108))
    have xa:Wa.heap[wr.heap.size]?=some (.cells #[.string E.key,.string E.val,.int .i64 E.size,.int .i64 E.over] 108):=hWa▸aA wr _
    obtain⟨g0,g1,g2,g3⟩:=iE xa
    have fa:Fr Bl.none wr Wa:=hWa▸(Fr.refl _ wr).alloc _
    have tA:=fa.heap tR (fun h=>h)
    obtain⟨k0,k1,k2⟩:=eU tA
    have hCc:=Ec root β ca cn cc E.key E.val E.size E.over Wa
    have HEX:Hid (E=X.e):=hEX
    have HXX:Hid (es[j]=X):=hX
    clear hEX hE hX
    gi_wp2_with (refine⟨trivial,rfl,?_⟩;gi_at_call 79;refine(callsIn_wide.2 hCc).mono ?_;clear hCc;rintro e Wb ⟨rfl,v1,v2,hbb⟩)
    obtain⟨size,over,hsz,hov,hle,hch⟩:=hXok
    rw [HEX.out,hsz,hov] at v2
    have fb:Fr Bl.none wr Wb:=fa.trans (Fr.of_below hbb)
    have zb:Wa.heap.size+1<Wb.heap.size:=(gL v2)
    have za:wr.heap.size<Wa.heap.size:=(gL xa)
    have hfB:aG Wb β sv lv fs:=hfR.on (fb.on (fun k hk=>⟨hfR.lies k hk,fun h=>h⟩))
    have hUB:=hUr.fr fb (fun h=>h)
    have bB:=fb.heap bR (fun h=>h)
    let Rc:Bl:=fun k=>k=Wa.heap.size∨k=Wa.heap.size+1∨fpF β sv lv k
    have hit:=Eb (Wa.heap.size+1) Wa.heap.size β sv lv fs root ca cn cc X.e.key X.e.val size over X.ch Rc Wb v2 v1 hfB hl (.inr (.inl rfl)) (.inl rfl) (fun k hk=>.inr (.inr hk)) (by omega) hch
    let Ic:List (Nat×Pg)→Bl→World→Prop:=fun pre Y W'=>aP W' ub (marks (marks (u.set p true) ((es.take j).flatMap En.pages)) (pre.map (·.1)))∧Y=Bl.one ub
    refine fY (P:=Tryz.prog) (Has:=qCg) (Rd:=Rc) rfl (enters_of Tryz.func111 (by kernel_rfl) rfl) hit (fun x args S W hH=>by obtain⟨v,rfl,_⟩:=hH;rfl) Ic (fun _ _ _ _=>False) ?_ (fun _ _ _ _ _ h=>h.elim) ?_ (fun _ _ _ _ h=>h.elim) (Bl.one ub) ⟨by simpa [sK] using hUB,rfl⟩ ?_ ?_ ?_ (fun _ _ _ _ _ _ _ _ _ h=>h.elim)
    ·rintro pre Y W W' ⟨h1,rfl⟩ ho
     exact⟨h1.on ho rfl,rfl⟩
    ·rintro pre Y W ⟨h1,rfl⟩ k hk
     simp only [Bl.one] at hk;subst hk;exact h1.lt
    ·have lu:=hUr.lt
     rintro k (rfl|rfl|hk)
     ·exact⟨oN (by omega),by omega⟩
     ·exact⟨oN (by omega),by omega⟩
     ·exact⟨fun h=>by simp only [Bl.one] at h;subst h;exact hUB.apart hfB hk,hfB.lies k hk⟩
    ·-- a round
     rintro l pre x rest args S Y' Wc hx ⟨hUp2,rfl⟩ hH hS hFW2 hGW2 hl0 hl1 hl2 ⟨rr,hrr⟩
     obtain⟨v,rfl,_⟩:=hH
     obtain⟨q,gq⟩:=x
     have hq:q<4096:=by
      have hm2:(q,gq)∈X.ch:=by rw [hx];simp
      obtain⟨gg,hgg,_⟩:=vY (fs:=fs) (x:=X) ⟨size,over,hsz,hov,hle,hch⟩ q (by simp only [En.pages,List.mem_map];exact⟨_,hm2,rfl⟩)
      exact jY hgg.1 hf.small
     have hqi:(q:Int)<4096:=by omega
     obtain⟨um,hum⟩:=nM (marks (marks (u.set p true) ((es.take j).flatMap En.pages)) (pre.map (·.1)))
     have HM:Hid (um.set q true=marks (marks (u.set p true) ((es.take j).flatMap En.pages)) ((pre++[(q,gq)]).map (·.1))):=by
      show _=_
      rw [List.map_append,kH,hum]
      rfl
     rw [hum] at hUp2
     have hlm:um.length=4096:=by rw [← hum,gG,gG];simpa using HU.out
     have bC:=hFW2.heap bB (oN (by omega))
     clear hum
     unfold iZ
     gi_wp2
     refine⟨Fr.refl _ _,?_⟩
     intro W₂ hT
     have zc:Wb.heap.size≤Wc.heap.size:=hFW2.size
     have bX:=hT.heap bC (by omega)
     have hUX:aP W₂ ub um:=hUp2.fr hT.fr (fun h=>by simp only [Bl.one] at h;have:=hUr.lt;omega)
     have c0:W₂.cell? ⟨w.heap.size+1+1,0,none⟩=some (.slice (some ⟨ub,0,none⟩) 4096 4096):=by simp [World.cell?,bX]
     have c1:=hUX.cell hq hlm
     have c2:=hUX.free
     gi_wp2
     refine⟨Bl.one ub,⟨?_,rfl⟩,(Fr.refl (Bl.one ub) W₂).setCell (p:=⟨ub,q,none⟩) (.inl rfl) _,aJ.refl _ _⟩
     rw [← HM.out]
     exact hUX.set q
    ·-- behind it
     rintro D2 Y' Wd hD2 hYD2 ⟨hUd,rfl⟩ hFd hGd hDd
     have HX2:Hid (aP Wd ub (marks (u.set p true) ((es.take (j+1)).flatMap En.pages))):=by
      show aP _ _ _
      rw [List.take_succ_eq_append_getElem hje,List.flatMap_append,kH,HXX.out]
      simpa [En.pages] using hUd
     have hMb:Marks w.heap.size ds Wb:=hMr.on (fun D' _ h=>fb.heap h (fun h=>h))
     have hMd:Marks w.heap.size (mk D2 :: ds) Wd:=hMb.cons (fun D' _ h=>hFd.heap h (fun e=>by simp only [Bl.one] at e;subst e;exact hUB.nodef h)) (by have:=hUr.lt;have:=B1.size;have:=F0.size;omega) hDd hD2
     have Fd:Fr (Bl.one ub) W Wd:=hFr.trans ((fb.mono (fun _ h=>h.elim)).trans hFd)
     have hj1:((j+1:Nat):Int)=(j:Int)+1:=by omega
     clear hUd
     gi_wp2
     refine⟨⟨j+1,_,_,_,_,_,_,_,_,_,by omega,by rw [hj1];rfl,HX2.out,Fd,hMd⟩,?_⟩
     simp [intOf]
     omega
   ·obtain rfl:j=g.ents.length:=by omega
    have HX3:Hid (aP wr ub (marks u (T.pages 0 (.leaf p es)))):=by
     show aP _ _ _
     rw [HL.out,List.take_length] at hUr
     exact hUr
    clear hUr
    gi_wp2
    refine qBc rfl hMr ?_
    intro w' ht'
    exact⟨⟨_,rfl⟩,HX3.out.took ht',(F0.trans hFr).took ht' (jU _)⟩
attribute [local go_sem] Oper.semAt_some
theorem He (β:Nat) (root:Int) (ca:Option Addr) (cn cc:Nat) (ub p:Nat) (s:Sp) (u:List Bool) (w:World) (hp:p<4096) (hu:u.length=4096) (hU:aP w ub u) (hon:on u p) :
  Calls Tryz.prog 86 #[.agg (tA β root ca cn cc),.int .i64 p,.agg #[.string s.lo,.string s.hi],.slice (some ⟨ub,0,none⟩) 4096 4096] w fun e w' =>
    (∃ v,e=.returned v)∧aP w' ub u∧Fr (Bl.one ub) w w':=by
 have hpi:(p:Int)<4096:=by omega
 obtain⟨W1,hW1⟩:=nM (((w.alloc (.cells (tA β root ca cn cc) 95)).alloc (.cells #[.string s.lo,.string s.hi] 135)).alloc (.cells #[.slice (some ⟨ub,0,none⟩) 4096 4096] 121))
 have B1:Below w.heap.size w W1:=hW1▸((bA _ _).alloc (by simp) _).alloc (by simp;omega) _
 have b1:W1.heap[w.heap.size+1+1]?=some (.cells #[.slice (some ⟨ub,0,none⟩) 4096 4096] 121):=by
  rw [← hW1];have:=aA ((w.alloc (.cells (tA β root ca cn cc) 95)).alloc (.cells #[.string s.lo,.string s.hi] 135)) (.cells #[.slice (some ⟨ub,0,none⟩) 4096 4096] 121);simpa using this
 have hU1:aP W1 ub u:=hU.on (vV B1 (Y:=Bl.one ub) (fun k hk=>by simp only [Bl.one] at hk;subst hk;exact hU.lt)) rfl
 have hcu:=hU1.cell hp hu
 have hval:u[p]'(by omega)=true:=(List.getElem?_eq_some_iff.1 hon).2
 rw [hval] at hcu
 have bc1:W1.cell? ⟨w.heap.size+1+1,0,none⟩=some (.slice (some ⟨ub,0,none⟩) 4096 4096):=by simp [World.cell?,b1]
 clear hval
 refine(callsIn_wide (n:=0)).1 (callsIn_of_wp_marks Tryz.func86 rfl trivial ?_ rfl)
 simp only [Tryz.ntmps86,jA,jB,jN,Nat.reduceAdd,Nat.reduceSub,jR,jO,jP,jT,jE,jF]
 gi_wp2
 refine qBc (B:=w.heap.size) rfl (Marks.nil _ _) ?_
 intro w' ht'
 exact⟨⟨_,rfl⟩,hU1.took ht',(Fr.of_below B1).took ht' (jU _)⟩
theorem qAh (β:Nat) (sv lv:Value) (fs:Fs) (hl:(fs.life==0)=false) (root:Int) (ca:Option Addr) (cn cc:Nat) (ub:Nat):∀ (h:Nat) (t:T) (s:Sp) (u:List Bool) (w:World),bG fs h t s→Shut u h t→u.length=4096→aG w β sv lv fs→aP w ub u →
  Calls Tryz.prog 86 #[.agg (tA β root ca cn cc),.int .i64 t.place,.agg #[.string s.lo,.string s.hi],.slice (some ⟨ub,0,none⟩) 4096 4096] w fun e w' =>
   (∃ v,e=.returned v)∧aP w' ub (marks u (T.pages h t))∧Fr (Bl.one ub) w w':=by
 intro h
 induction h with
 | zero =>
  intro t s u w ht hs hu hf hU
  cases t with
  | branch p ks kids=>exact ht.elim
  | leaf p es =>
   by_cases hon:on u p
   ·have e:marks u (T.pages 0 (.leaf p es))=u:=Cr (hs (0,.leaf p es) (by simp [T.subs]) hon)
    rw [e]
    obtain⟨g,hg,_⟩:=ht
    exact He β root ca cn cc ub p s u w (jY hg.1 hf.small) hu hU hon
   ·exact Wp β sv lv fs hl root ca cn cc ub p es s u w ht hs hu hf hU hon
 | succ h ih =>
  intro t s u w ht hs hu hf hU
  cases t with
  | leaf p es=>exact ht.elim
  | branch p ks kids =>
   by_cases hon:on u p
   ·have e:marks u (T.pages (h+1) (.branch p ks kids))=u:=Cr (hs (h+1,.branch p ks kids) (by simp [T.subs]) hon)
    rw [e]
    obtain⟨g,hg,_⟩:=ht
    exact He β root ca cn cc ub p s u w (jY hg.1 hf.small) hu hU hon
   ·exact Md β sv lv fs hl root ca cn cc ub h ih p ks kids s u w ht hs hu hf hU hon
def bJ (fs:Fs) (root:Nat):Option (Nat×T)→Prop
 | none=>root=0
 | some (h,t)=>0<root∧t.place=root∧bG fs h t ⟨⟨#[]⟩,⟨#[]⟩⟩
def bZ:Option (Nat×T)→List Nat
 | none=>[]
 | some (h,t)=>T.pages h t
def El (u:List Bool):Option (Nat×T)→Prop
 | none=>True
 | some (h,t)=>Shut u h t
theorem Em (β:Nat) (sv lv:Value) (fs:Fs) (hl:(fs.life==0)=false) (root:Nat) (ca:Option Addr) (cn cc:Nat) (ub:Nat) (o:Option (Nat×T)) (u:List Bool) (w:World) (ho:bJ fs root o) (hs:El u o) (hu:u.length=4096) (hf:aG w β sv lv fs) (hU:aP w ub u) :
  Calls Tryz.prog 63 #[.agg (tA β root ca cn cc),.slice (some ⟨ub,0,none⟩) 4096 4096] w fun e w' =>
   (∃ v,e=.returned v)∧aP w' ub (marks u (bZ o))∧Fr (Bl.one ub) w w':=by
 obtain⟨W1,hW1⟩:=nM (w.alloc (.cells (tA β root ca cn cc) 95))
 have B1:Below w.heap.size w W1:=hW1▸(bA _ _)
 have t1:W1.heap[w.heap.size]?=some (.cells (tA β root ca cn cc) 95):=hW1▸aA w _
 obtain⟨c0,c1,c2⟩:=eU t1
 have hf1:=hf.on (vV B1 hf.lies)
 have hU1:aP W1 ub u:=hU.on (vV B1 (Y:=Bl.one ub) (fun k hk=>by simp only [Bl.one] at hk;subst hk;exact hU.lt)) rfl
 cases o with
 | none =>
  have hr:root=0:=ho
  subst hr
  go_enter Tryz.func63,Tryz.ntmps63
  go_wp2
  go_end0
  rw [← hW1] at hU1 B1
  exact⟨⟨_,rfl⟩,hU1,Fr.of_below B1⟩
 | some x =>
  obtain⟨h,t⟩:=x
  obtain⟨hr,hp,hst⟩:=ho
  have hM:=qAh β sv lv fs hl root ca cn cc ub h t ⟨⟨#[]⟩,⟨#[]⟩⟩ u W1 hst hs hu hf1 hU1
  rw [hp] at hM
  have hrb:((root:Int) != 0)=true:=by simp;omega
  clear hp
  go_enter Tryz.func63,Tryz.ntmps63
  go_wp2_with (go_at_call 86;refine hM.mono ?_;rintro e W2 ⟨⟨v,rfl⟩,hU2,f2⟩)
  go_end0
  exact⟨⟨_,rfl⟩,hU2,(Fr.of_below B1).trans f2⟩
attribute [local go_sem] Oper.semAt_some
def lvs:Nat→T→Sp→Sp→List (List En)
 | _,.leaf _ es,_,_=>[es]
 | 0,.branch _ _ _,_,_=>[]
 | h+1,.branch _ ks kids,s,q=>(parts s ks kids).flatMap (fun x=>if x.2.meets q=true then lvs h x.1 x.2 q else [])
def wK (es:List En) (args:Array Value) (S:Bl) (w:World):Prop:=∃ g v,args=#[v]∧g.ents=es.map (·.e)∧Yk w S g v∧g.ents.length≤1000
theorem lR {P:Program} {n:Nat} {fn:Func} {tmps:Array Value} {R:Ending→World→Prop} {D:Nat} {w:World} (hr:fn.results=#[]) (hD:w.heap[D]?=some (.deferred (some []))) (h:R (.returned (.tuple #[])) (w.putObj D (.deferred none))) :
  LeavesInM Fence.wide n P fn tmps R [{ target:=.collected D,args:=#[] }] .returning w :=
 ⟨by simp,.inl ⟨D,_,rfl,run_takeDeferred hD,⟨_,results_none hr _ _ _,h⟩⟩⟩
theorem sM (w:World) (o:Obj) (k:Nat) (hk:w.heap.size=k):(w.alloc o).heap[k]?=some o:=hk▸aA w o
theorem yT (root place:Int) (β:Nat) (ca:Option Addr) (cn cc:Nat) (s q:Sp) (w:World) :
  Calls Tryz.prog 105 #[.agg (tA β root ca cn cc),.int .i64 place,.agg #[.string s.lo,.string s.hi],.agg #[.string q.lo,.string q.hi]] w fun e w' =>
   e=.returned (.func (.func 130) #[] #[.pointer (some ⟨w.heap.size,0,none⟩),.pointer (some ⟨w.heap.size+1,0,none⟩),.pointer (some ⟨w.heap.size+1+1,0,none⟩),.pointer (some ⟨w.heap.size+1+1+1,0,none⟩)]) ∧
   w'.heap[w.heap.size]?=some (.cells (tA β root ca cn cc) 95)∧w'.heap[w.heap.size+1]?=some (.cells #[.int .i64 place] 3) ∧
   w'.heap[w.heap.size+1+1]?=some (.cells #[.string s.lo,.string s.hi] 135)∧w'.heap[w.heap.size+1+1+1]?=some (.cells #[.string q.lo,.string q.hi] 135)∧Below w.heap.size w w':=by
 have HR:∀ W4,W4=(((w.alloc (.cells (tA β root ca cn cc) 95)).alloc (.cells #[.int .i64 place] 3)).alloc (.cells #[.string s.lo,.string s.hi] 135)).alloc (.cells #[.string q.lo,.string q.hi] 135) →
   (W4.heap[w.heap.size]?=some (.cells (tA β root ca cn cc) 95)∧W4.heap[w.heap.size+1]?=some (.cells #[.int .i64 place] 3) ∧
   W4.heap[w.heap.size+1+1]?=some (.cells #[.string s.lo,.string s.hi] 135)∧W4.heap[w.heap.size+1+1+1]?=some (.cells #[.string q.lo,.string q.hi] 135)∧Below w.heap.size w W4):=by
  rintro W4 rfl
  refine⟨aB _ (aB _ (aB _ (aA _ _))),aB _ (aB _ (sM _ _ _ (by simp))),aB _ (sM _ _ _ (by simp)),sM _ _ _ (by simp),?_⟩
  exact(((bA _ _).alloc (by simp) _).alloc (by simp;omega) _).alloc (by simp;omega) _
 go_enter Tryz.func105,Tryz.ntmps105
 go_wp2
 go_ret
 exact⟨rfl,HR _ rfl⟩
attribute [local go_sem] Oper.semAt_some
theorem Mf (β:Nat) (sv lv:Value) (fs:Fs) (hl:(fs.life==0)=false) (root:Int) (ca:Option Addr) (cn cc:Nat) (p:Nat) (es:List En) (s q:Sp) (ht:bG fs 0 (.leaf p es) s) (bt bp bw bq:Nat) (Rd:Bl) (w:World)
  (xt:w.heap[bt]?=some (.cells (tA β root ca cn cc) 95)) (xp:w.heap[bp]?=some (.cells #[.int .i64 p] 3)) (xw:w.heap[bw]?=some (.cells #[.string s.lo,.string s.hi] 135)) (xq:w.heap[bq]?=some (.cells #[.string q.lo,.string q.hi] 135))
  (hf:aG w β sv lv fs) (r1:Rd bt) (r2:Rd bp) (r3:Rd bw) (r4:Rd bq) (rf:∀ k,fpF β sv lv k→Rd k) :
  oJ Tryz.prog 130 #[.pointer (some ⟨bt,0,none⟩),.pointer (some ⟨bp,0,none⟩),.pointer (some ⟨bw,0,none⟩),.pointer (some ⟨bq,0,none⟩)] wK (lvs 0 (.leaf p es) s q) Rd w:=by
 intro l J Jx Y W hon hRd sJ lJ sJx lJx hY h0
 refine callsIn_of_wp_marks Tryz.func130 rfl trivial ?_ rfl
 simp only [Tryz.ntmps130,jA,jB,jN,Nat.reduceAdd,Nat.reduceSub,jR,jO,jP,jT,jE,jF]
 obtain⟨g,hg,hk3,hes,hne,hin,hok⟩:=ht
 have lY:=lJ [] Y W h0
 have l1:=(hRd bt r1).2
 have l2:=(hRd bp r2).2
 have l3:=(hRd bw r3).2
 have l4:=(hRd bq r4).2
 obtain⟨W1,hW1⟩:=nM (W.alloc (.cells #[.func (.yield l) #[] #[]] 204))
 have f1:Fr Bl.none W W1:=hW1▸(Fr.refl _ W).alloc _
 have y1:W1.heap[W.heap.size]?=some (.cells #[.func (.yield l) #[] #[]] 204):=hW1▸aA W _
 have o1:On Rd w W1:=hon.trans (f1.on (fun k hk=>⟨(hRd k hk).2,fun h=>h⟩))
 obtain⟨a0,a1,a2⟩:=eU (o1.heap xt r1)
 have b0:W1.cell? ⟨bp,0,none⟩=some (.int .i64 p):=by simp [World.cell?,o1.heap xp r2]
 obtain⟨c0,c1⟩:=cG (o1.heap xw r3)
 have hf1:=hf.on (o1.mono rf)
 obtain⟨sm1,sm2,sm3⟩:=iV hg
 have he0:0<g.ents.length:=by rw [hes,List.length_map];exact List.length_pos_iff.2 hne
 have hin':∀ e∈g.ents,s.has e.key=true:=fun e he=>by rw [hes,List.mem_map] at he;obtain⟨x,hx,rfl⟩:=he;exact hin x hx
 have hNd:=sI β sv lv fs root ca cn cc p s g W1 hf1 hl hg (by simp [hk3]) (by simp [hk3]) he0 (hin' _ (List.getElem_mem _)) (hin' _ (List.getElem_mem _)) sm1 sm3
 have kb:(g.kind==3)=true:=by simp [hk3]
 have HE:Hid (g.ents=es.map (·.e)):=hes
 have HK:Hid (g.kind=3):=hk3
 clear hk3 hes
 gi_wp2_with (refine⟨trivial,rfl,?_⟩;gi_at_call 117;refine(callsIn_wide.2 hNd).mono ?_;clear hNd;rintro e W3 ⟨vv,rfl,⟨ka,ia,ea,kc,ic,ec,rfl,q1,q2,q3,qq⟩,hb3⟩;obtain⟨W4,hW4⟩:=nM (W3.alloc (pgO g ka ia ea kc ic ec));have x4:W4.heap[W3.heap.size]?=some (pgO g ka ia ea kc ic ec):=hW4▸aA W3 _;obtain⟨m0,m1,m2,m3,m4,m5,m6,m7⟩:=bL x4;have f4:Fr Bl.none W1 W4:=(Fr.of_below hb3).trans (hW4▸(Fr.refl _ W3).alloc _);have y4:=f4.heap y1 (fun h=>h);have d0:W4.cell? ⟨W.heap.size,0,none⟩=some (.func (.yield l) #[] #[]):=(by simp [World.cell?,y4]);have F4:Fr Y W W4:=(f1.trans f4).mono (fun _ h=>h.elim);have hJ4:=sJ _ _ _ _ h0 ((f1.trans f4).on (Z:=Y) (fun k hk=>⟨lY k hk,fun h=>h⟩));have o4:On (New W1 W3) W3 W4:=hW4▸(On.refl _ W3).alloc (fun k hk=>hk.2) _;have z1:=f1.size;obtain⟨fn,tmps,assign,body,hy,hR⟩:=hY [] es [] #[.agg #[.int .i64 g.kind,.int .i64 g.ver,.int .i64 g.root,.int .i64 g.next,.slice ka g.keys.length kc,.slice ia g.kids.length ic,.slice ea g.ents.length ec,.string g.data]] (New W1 W3) Y W4 rfl hJ4 ⟨g,_,rfl,HE.out,⟨ka,ia,ea,kc,ic,ec,rfl,q1.on o4,q2.on o4,q3.on o4,qq⟩,sm3⟩ (fun k hk=>⟨fun hy=>by have:=lY k hy;have:=hk.1;omega,jY hk.2 o4.size⟩) F4 (aJ.refl _ _))
 refine⟨rfl,(dS hR).mono ?_⟩
 clear hy hR
 rintro e W5 (⟨rfl,Y5,hJ5,hF5,hG5⟩|⟨rfl,Y5,hJ5,hF5,hG5⟩)
 ·gi_wp2
  refine⟨_,results_none rfl _ _ _,⟨_,rfl⟩,Y5,F4.grow hF5 (aJ.refl _ _),(aJ.refl W Y).trans F4.size hG5,.inl hJ5⟩
 ·gi_wp2
  refine⟨_,results_none rfl _ _ _,⟨_,rfl⟩,Y5,F4.grow hF5 (aJ.refl _ _),(aJ.refl W Y).trans F4.size hG5,.inr ⟨[]++[es],List.prefix_refl _,by simp,hJ5⟩⟩
attribute [local go_sem] Oper.semAt_some
theorem mG {P:Program} {n:Nat} {l:Nat} {f:FuncId} {tmps:Array Value} {assign body:Code} {w:World} {R:Ending→World→Prop} (l':Nat) (h:RoundIn Fence.wide n P l f tmps assign body w R):RoundIn (Fence.wide.inRound l') n P l f tmps assign body w R:=h
def Pk (β:Nat) (sv lv:Value) (fs:Fs) (root:Int) (ca:Option Addr) (cn cc:Nat) (q:Sp) (h:Nat):Prop :=
 ∀ (t:T) (s:Sp),bG fs h t s→∀ (bt bp bw bq:Nat) (Rd:Bl) (w:World),
  w.heap[bt]?=some (.cells (tA β root ca cn cc) 95)→w.heap[bp]?=some (.cells #[.int .i64 t.place] 3)→w.heap[bw]?=some (.cells #[.string s.lo,.string s.hi] 135)→w.heap[bq]?=some (.cells #[.string q.lo,.string q.hi] 135) →
  aG w β sv lv fs→Rd bt→Rd bp→Rd bw→Rd bq→(∀ k,fpF β sv lv k→Rd k) →
  oJ Tryz.prog 130 #[.pointer (some ⟨bt,0,none⟩),.pointer (some ⟨bp,0,none⟩),.pointer (some ⟨bw,0,none⟩),.pointer (some ⟨bq,0,none⟩)] wK (lvs h t s q) Rd w
theorem Fg (β:Nat) (sv lv:Value) (fs:Fs) (hl:(fs.life==0)=false) (root:Int) (ca:Option Addr) (cn cc:Nat) (q:Sp) (h:Nat) (ih:Pk β sv lv fs root ca cn cc q h) (p:Nat) (ks:List ByteArray) (kids:List T) (s:Sp) (ht:bG fs (h+1) (.branch p ks kids) s) (bt bp bw bq:Nat) (Rd:Bl) (w:World)
  (xt:w.heap[bt]?=some (.cells (tA β root ca cn cc) 95)) (xp:w.heap[bp]?=some (.cells #[.int .i64 p] 3)) (xw:w.heap[bw]?=some (.cells #[.string s.lo,.string s.hi] 135)) (xq:w.heap[bq]?=some (.cells #[.string q.lo,.string q.hi] 135))
  (hf:aG w β sv lv fs) (r1:Rd bt) (r2:Rd bp) (r3:Rd bw) (r4:Rd bq) (rf:∀ k,fpF β sv lv k→Rd k) :
  oJ Tryz.prog 130 #[.pointer (some ⟨bt,0,none⟩),.pointer (some ⟨bp,0,none⟩),.pointer (some ⟨bw,0,none⟩),.pointer (some ⟨bq,0,none⟩)] wK (lvs (h+1) (.branch p ks kids) s q) Rd w:=by
 intro l J Jx Y W hon hRd sJ lJ sJx lJx hY h0
 refine callsIn_of_wp_marks Tryz.func130 rfl trivial ?_ rfl
 simp only [Tryz.ntmps130,jA,jB,jN,Nat.reduceAdd,Nat.reduceSub,jR,jO,jP,jT,jE,jF]
 obtain⟨g,hg,hk2,hks,hkd,hlen,⟨h0k,c1k,c2k⟩,hall⟩:=ht
 have lY:=lJ [] Y W h0
 have l1:=(hRd bt r1).2
 have l2:=(hRd bp r2).2
 have l3:=(hRd bw r3).2
 have l4:=(hRd bq r4).2
 obtain⟨W1,hW1⟩:=nM (W.alloc (.cells #[.func (.yield l) #[] #[]] 204))
 have f1:Fr Bl.none W W1:=hW1▸(Fr.refl _ W).alloc _
 have y1:W1.heap[W.heap.size]?=some (.cells #[.func (.yield l) #[] #[]] 204):=hW1▸aA W _
 have o1:On Rd w W1:=hon.trans (f1.on (fun k hk=>⟨(hRd k hk).2,fun h=>h⟩))
 obtain⟨a0,a1,a2⟩:=eU (o1.heap xt r1)
 have b0:W1.cell? ⟨bp,0,none⟩=some (.int .i64 p):=by simp [World.cell?,o1.heap xp r2]
 obtain⟨c0,c1⟩:=cG (o1.heap xw r3)
 have hf1:=hf.on (o1.mono rf)
 obtain⟨sm1,sm2,sm3⟩:=iV hg
 have hNd:=rF β sv lv fs root ca cn cc p s g W1 hf1 hl hg (by simp [hk2]) (by rw [hks];exact h0k) (by simp only [hks];exact c1k) (by simp only [hks];exact c2k) sm1 sm3
 have kb:(g.kind==3)=false:=by simp [hk2]
 have HKS:Hid (g.keys=ks):=hks
 have HKD:Hid (g.kids=kids.map (fun t=>(t.place:Int))):=hkd
 clear hk2 hks hkd hlen
 gi_wp2_with (first
  | (refine⟨trivial,rfl,?_⟩;gi_at_call 117;refine(callsIn_wide.2 hNd).mono ?_;clear hNd;rintro e W3 ⟨vv,rfl,⟨ka,ia,ea,kc,ic,ec,rfl,q1,q2,q3,qq⟩,hb3⟩;obtain⟨W4,hW4⟩:=nM (W3.alloc (pgO g ka ia ea kc ic ec));have x4:W4.heap[W3.heap.size]?=some (pgO g ka ia ea kc ic ec):=hW4▸aA W3 _;obtain⟨m0,m1,m2,m3,m4,m5,m6,m7⟩:=bL x4;have f4:Fr Bl.none W1 W4:=(Fr.of_below hb3).trans (hW4▸(Fr.refl _ W3).alloc _);have o4:On Rd w W4:=o1.trans (f4.on (fun k hk=>⟨jY (hRd k hk).2 f1.size,fun h=>h⟩));obtain⟨e0,e1⟩:=cG (o4.heap xw r3);have hKc:=pE g s ka ia ea kc ic ec W4)
  | (refine⟨trivial,rfl,?_⟩;gi_at_call 118;refine(callsIn_wide.2 hKc).mono ?_;clear hKc;rintro e W5 ⟨rfl,y1',y2',hb5⟩))
 have f5:Fr Bl.none W W5:=(f1.trans f4).trans (Fr.of_below hb5)
 have z1:W.heap.size<W1.heap.size:=(gL y1)
 have z4:W3.heap.size<W4.heap.size:=(gL x4)
 have z3:=hb3.size
 have z5:W4.heap.size+1<W5.heap.size:=(gL y2')
 have o5:On Rd w W5:=o4.trans (vV hb5 (fun k hk=>by have:=(hRd k hk).2;omega))
 have y5:W5.heap[W.heap.size]?=some (.cells #[.func (.yield l) #[] #[]] 204):=((f4.trans (Fr.of_below hb5)).heap y1 (fun h=>h))
 have o35:On (New W1 W3) W3 W5:=(hW4▸(On.refl _ W3).alloc (fun k hk=>hk.2) _:On (New W1 W3) W3 W4).trans (vV hb5 (fun k hk=>by have:=hk.2;omega))
 let Rk:Bl:=fun k=>k=W4.heap.size∨k=W4.heap.size+1∨New W1 W3 k
 have hseq:=pD (W4.heap.size+1) W4.heap.size s g.kind g.ver g.root g.next ka ia ea kc ic g.ents.length ec g.data g.keys g.kids Rk W5 y2' y1' ((q1.on o35).mono (fun k hk=>.inr (.inr hk))) ((q2.on o35).mono (fun k hk=>.inr (.inr hk))) (.inr (.inl rfl)) (.inl rfl) sm1 sm2 qq.1 qq.2.1
 have hxs:parts s g.keys g.kids=(parts s ks kids).map (fun x=>((x.1.place:Int),x.2)):=by rw [HKS.out,HKD.out,pB]
 let F:T×Sp→List (List En):=fun x=>if x.2.meets q=true then lvs h x.1 x.2 q else []
 have HLV:Hid (lvs (h+1) (.branch p ks kids) s q=(parts s ks kids).flatMap F):=rfl
 have h05:J [] Y W5:=sJ _ _ _ _ h0 (f5.on (fun k hk=>⟨lY k hk,fun h=>h⟩))
 let I:List (Int×Sp)→Bl→World→Prop:=fun pre Y W=>J (((parts s ks kids).take pre.length).flatMap F) Y W
 let Ix:Code→List (Int×Sp)→Bl→World→Prop:=fun c pre Y W=>c=.ret∧∃ pp,pp <+: (parts s ks kids).flatMap F∧pp≠[]∧Jx pp Y W
 refine fY (P:=Tryz.prog) (Has:=rV) (Rd:=Rk) rfl (enters_of Tryz.func140 (by kernel_rfl) rfl) hseq (fun x args S W hH=>by rw [hH];rfl) I Ix (fun s Y W W' hi ho=>sJ _ _ _ _ hi ho) ?_ (fun s Y W hi=>lJ _ _ _ hi) ?_ Y (by simpa [I] using h05) ?_ ?_ ?_ ?_
 ·rintro c pre Y W W' ⟨rfl,pp,h1,h2,h3⟩ ho
  exact⟨rfl,pp,h1,h2,sJx _ _ _ _ h3 ho⟩
 ·rintro c pre Y W ⟨rfl,pp,h1,h2,h3⟩
  exact lJx _ _ _ h3
 ·rintro k (rfl|rfl|hk)
  ·exact⟨fun h=>by have:=lY _ h;omega,by omega⟩
  ·exact⟨fun h=>by have:=lY _ h;omega,by omega⟩
  ·exact⟨fun h=>by have:=lY _ h;have:=hk.1;omega,by have:=hk.2;omega⟩
 ·-- a kid
  rintro lk pre x rest args S Y' Wc hx hJc hH hS hFc hGc hl0 hl1 hl2 ⟨rr,hrr⟩
  have hjl:pre.length<kids.length:=by
   have:=congrArg List.length hx
   rw [hxs] at this
   simp [fL] at this
   omega
  obtain⟨kid,hkid⟩:=nM (kids[pre.length]'hjl)
  obtain⟨sp,hsp⟩:=nM ((⟨oG s ks pre.length,nI s ks pre.length⟩:Sp))
  have hpa:=iP s ks kids pre.length hjl
  rw [hkid,hsp] at hpa
  have hxe:x=((kid.place:Int),sp):=by
   have h1:(parts s g.keys g.kids)[pre.length]?=some x:=by rw [hx];simp
   rw [hxs,List.getElem?_map,hpa] at h1
   simpa using h1.symm
  have hst:bG fs h kid sp:=hall _ (List.mem_of_getElem? hpa)
  subst hxe
  have hH':args=#[.int .i64 kid.place,.agg #[.string sp.lo,.string sp.hi]]:=hH
  subst hH'
  have HT:Hid (((parts s ks kids).take (pre.length+1)).flatMap F=((parts s ks kids).take pre.length).flatMap F++F (kid,sp)):=by
   show _=_
   rw [tJ hpa,List.flatMap_append];simp
  have HSP:Hid ((parts s ks kids).flatMap F=((parts s ks kids).take pre.length).flatMap F++(F (kid,sp)++((parts s ks kids).drop (pre.length+1)).flatMap F)):=by
   show _=_
   conv=>lhs;rw [uQ hpa]
   rw [List.flatMap_append,List.flatMap_cons]
  obtain⟨dn,hdn⟩:=nM (((parts s ks kids).take pre.length).flatMap F)
  have hJc':J dn Y' Wc:=hdn▸hJc
  rw [hdn] at HT HSP
  have zc:W5.heap.size≤Wc.heap.size:=hFc.size
  have Fc:Fr Y W Wc:=(f5.mono (fun _ h=>h.elim)).trans hFc
  have Gc:aJ W Y Y':=(aJ.refl W Y).trans f5.size hGc
  have oc:On Rd w Wc:=o5.trans (hFc.on (fun k hk=>⟨by have:=(hRd k hk).2;omega,(hRd k hk).1⟩))
  have yc:=hFc.heap y5 (fun h=>by have:=lY _ h;omega)
  have lY':=lJ _ _ _ hJc'
  have hYb:¬ Y' W.heap.size:=fun h=>(hGc _ h).elim (fun h'=>by have:=lY _ h';omega) (fun h'=>by omega)
  clear hdn hJc hkid hsp hpa hxs hx
  unfold iZ
  gi_wp2
  refine⟨(Fr.refl _ Wc).alloc _,?_⟩
  intro W₂ hT
  have aW:Fr Bl.none Wc (Wc.alloc (.cells #[.string sp.lo,.string sp.hi] 135)):=(Fr.refl _ Wc).alloc _
  have fX:Fr (Bl.one lk) Wc W₂:=(aW.mono (fun _ h=>h.elim)).trans hT.fr
  have x2:=hT.heap (aA Wc (.cells #[.string sp.lo,.string sp.hi] 135)) (by omega)
  have oX:On Rd w W₂:=oc.trans (fX.on (fun k hk=>⟨by have:=(hRd k hk).2;omega,fun h=>by simp only [Bl.one] at h;have:=(hRd k hk).2;omega⟩))
  have yX:=fX.heap yc (oN (by omega))
  have hJX:J dn Y' W₂:=sJ _ _ _ _ hJc' (fX.on (fun k hk=>⟨lY' k hk,fun h=>by simp only [Bl.one] at h;subst h;exact hl2 hk⟩))
  have FX:Fr Y W W₂:=Fc.grow fX (fun k hk=>.inr (by simp only [Bl.one] at hk;omega))
  have zX:Wc.heap.size<W₂.heap.size:=(gL x2)
  obtain⟨e0',e1'⟩:=cG x2
  obtain⟨u0,u1⟩:=cG (oX.heap xq r4)
  have hM:=Wo sp q W₂
  have lX:∀ k,Rd k→k<W₂.heap.size:=fun k hk=>by have:=(hRd k hk).2;omega
  clear a0 a1 a2 b0 c0 c1 e0 e1 m0 m1 m2 m3 m4 m5 m6 m7
  cases hm:sp.meets q
  ·rw [hm] at hM
   have HF:Hid (F (kid,sp)=[]):=by show _=_;simp [F,hm]
   gi_wp2_with (refine⟨trivial,rfl,?_⟩;gi_at_call 131;refine(CallsIn.inRound lk (callsIn_wide.2 hM)).mono ?_;rintro e W₃ ⟨rfl,hb₃⟩)
   refine⟨Y',?_,Fr.of_below hb₃,aJ.refl _ _⟩
   show J _ _ _
   rw [jK,List.length_singleton,HT.out,HF.out,List.append_nil]
   exact sJ _ _ _ _ hJX (vV hb₃ (fun k hk=>lJ _ _ _ hJX k hk))
  ·rw [hm] at hM
   have HF:Hid (F (kid,sp)=lvs h kid sp q):=by show _=_;simp [F,hm]
   gi_wp2_with (first
    | (refine⟨trivial,rfl,?_⟩;gi_at_call 131;refine(CallsIn.inRound lk (callsIn_wide.2 hM)).mono ?_;clear hM;rintro e W₃ ⟨rfl,hb₃⟩;have o₃:On Rd w W₃:=oX.trans (vV hb₃ lX);obtain⟨v0,v1,v2⟩:=eU (o₃.heap xt r1);have x3:=(hb₃.block _ zX).trans x2;obtain⟨d0,d1⟩:=cG x3;obtain⟨s0,s1⟩:=cG (o₃.heap xq r4);have hLc:=yT root kid.place β ca cn cc sp q W₃)
    | (refine⟨trivial,rfl,?_⟩;gi_at_call 105;refine(CallsIn.inRound lk (callsIn_wide.2 hLc)).mono ?_;clear hLc;rintro e W₆ ⟨rfl,p1,p2,p3,p4,hb₆⟩))
   have b26:Below W₂.heap.size W₂ W₆:=hb₃.trans (hb₆.mono hb₃.size)
   obtain⟨rk,hrk⟩:=hT.rcd
   have hlk2:lk<W₂.heap.size:=(gL hrk)
   have hrk6:=(b26.block _ hlk2).trans hrk
   have o₆:On Rd w W₆:=oX.trans (vV b26 lX)
   have hf6:=hf.on (o₆.mono rf)
   have z6:W₃.heap.size+1+1+1<W₆.heap.size:=(gL p4)
   have z23:=hb₃.size
   have y6:=(b26.block _ (by omega)).trans yX
   have hJ6:J dn Y' W₆:=sJ _ _ _ _ hJX (vV b26 (fun k hk=>lJ _ _ _ hJX k hk))
   have lX':=lJ _ _ _ hJX
   have hYy:¬ Y' W.heap.size:=hYb
   have F6:Fr Y W W₆:=FX.trans (Fr.of_below b26)
   let R6:Bl:=fun k=>k=W₃.heap.size∨k=W₃.heap.size+1∨k=W₃.heap.size+1+1∨k=W₃.heap.size+1+1+1∨fpF β sv lv k
   have hit:=ih kid sp hst W₃.heap.size (W₃.heap.size+1) (W₃.heap.size+1+1) (W₃.heap.size+1+1+1) R6 W₆ p1 p2 p3 p4 hf6 (.inl rfl) (.inr (.inl rfl)) (.inr (.inr (.inl rfl))) (.inr (.inr (.inr (.inl rfl)))) (fun k hk=>.inr (.inr (.inr (.inr hk))))
   let I2:List (List En)→Bl→World→Prop:=fun pre Y W=>J (dn++pre) Y W
   let Ix2:Code→List (List En)→Bl→World→Prop:=fun c pre Y W=>c=.ret∧∃ pp,pp <+: (parts s ks kids).flatMap F∧pp≠[]∧Jx pp Y W
   refine Ku (P:=Tryz.prog) (Has:=wK) (Rd:=R6) hrk6 rfl (enters_of Tryz.func130 (by kernel_rfl) rfl) hit (fun x args S W hH=>by obtain⟨g',v,rfl,_⟩:=hH;rfl) I2 Ix2 (fun s Y W W' hi ho=>sJ _ _ _ _ hi ho) ?_ (fun s Y W hi=>lJ _ _ _ hi) ?_ Y' (by simpa [I2] using hJ6) ?_ ?_ ?_ ?_
   ·rintro c pre Y W W' ⟨rfl,pp,h1,h2,h3⟩ ho
    exact⟨rfl,pp,h1,h2,sJx _ _ _ _ h3 ho⟩
   ·rintro c pre Y W ⟨rfl,pp,h1,h2,h3⟩
    exact lJx _ _ _ h3
   ·rintro k (rfl|rfl|rfl|rfl|hk)
    ·exact⟨fun h=>by have:=lX' _ h;omega,by omega⟩
    ·exact⟨fun h=>by have:=lX' _ h;omega,by omega⟩
    ·exact⟨fun h=>by have:=lX' _ h;omega,by omega⟩
    ·exact⟨fun h=>by have:=lX' _ h;omega,by omega⟩
    ·exact⟨fun h=>(Gc k h).elim (hRd k (rf k hk)).1 (fun h'=>by have:=(hRd k (rf k hk)).2;omega),hf6.lies k hk⟩
   ·-- a leaf
    rintro l2 pre2 x2 rest2 args S2 Y2 Wd hx2 hJd hH2 hS2 hFd hGd hl20 hl21 hl22 ⟨r2',hr2'⟩
    obtain⟨g2,v,rfl,hge,⟨ka2,ia2,ea2,kc2,ic2,ec2,rfl,w1,w2,w3,ww⟩,hgl⟩:=hH2
    have zd:W₆.heap.size≤Wd.heap.size:=hFd.size
    have yd:=hFd.heap y6 (fun h=>hYy h)
    have Fd:Fr Y W Wd:=F6.grow hFd Gc
    have Gd:aJ W Y Y2:=Gc.trans F6.size hGd
    have lY2:=lJ _ _ _ hJd
    have HGE:Hid (g2.ents=x2.map (·.e)):=hge
    have HX2:Hid (lvs h kid sp q=pre2++x2 :: rest2):=hx2
    clear hge hx2
    unfold iZ
    gi_wp2
    refine⟨(Fr.refl _ Wd).alloc _,?_⟩
    intro We hTe
    have x3e:=hTe.heap (k:=Wd.heap.size) (aA Wd (pgO g2 ka2 ia2 ea2 kc2 ic2 ec2)) (Nat.ne_of_gt hl21)
    obtain⟨m0,m1,m2,m3,m4,m5,m6,m7⟩:=bL x3e
    have aE:Fr Bl.none Wd (Wd.alloc (pgO g2 ka2 ia2 ea2 kc2 ic2 ec2)):=(Fr.refl _ Wd).alloc _
    have fE:Fr (Bl.one l2) Wd We:=(aE.mono (fun _ h=>h.elim)).trans hTe.fr
    have yE:=fE.heap yd (oN (by omega))
    have yE0:We.cell? ⟨W.heap.size,0,none⟩=some (.func (.yield l) #[] #[]):=by simp [World.cell?,yE]
    have hJe:J (dn++pre2) Y2 We:=sJ _ _ _ _ hJd (fE.on (fun k hk=>⟨lY2 k hk,fun h=>by simp only [Bl.one] at h;subst h;exact hl22 hk⟩))
    have oS:On S2 Wd We:=fE.on (fun k hk=>⟨(hS2 k hk).2.1,fun h=>(hS2 k hk).2.2 h⟩)
    have Fe:Fr Y W We:=Fd.grow fE (fun k hk=>.inr (by simp only [Bl.one] at hk;omega))
    have heq:lvs (h+1) (.branch p ks kids) s q=(dn++pre2)++x2 :: (rest2++((parts s ks kids).drop (pre.length+1)).flatMap F):=by
     rw [HLV.out,HSP.out,HF.out,HX2.out];simp
    obtain⟨fn,tmps,assign,body,hy,hR⟩:=hY (dn++pre2) x2 (rest2++((parts s ks kids).drop (pre.length+1)).flatMap F) #[.agg #[.int .i64 g2.kind,.int .i64 g2.ver,.int .i64 g2.root,.int .i64 g2.next,.slice ka2 g2.keys.length kc2,.slice ia2 g2.kids.length ic2,.slice ea2 g2.ents.length ec2,.string g2.data]] S2 Y2 We heq hJe ⟨g2,_,rfl,HGE.out,⟨ka2,ia2,ea2,kc2,ic2,ec2,rfl,w1.on oS,w2.on oS,w3.on oS,ww⟩,hgl⟩ (fun k hk=>⟨(hS2 k hk).1,jY (hS2 k hk).2.1 fE.size⟩) Fe Gd
    have HQ:Hid ((dn++pre2)++[x2] <+: (parts s ks kids).flatMap F):=by
     show _ <+: _
     rw [← HLV.out,heq];exact⟨rest2++((parts s ks kids).drop (pre.length+1)).flatMap F,by simp⟩
    clear heq
    gi_wp2
    refine⟨rfl,(mG l2 (dS hR)).mono ?_⟩
    clear hy hR
    rintro e Wf (⟨rfl,Y5,hJ5,hF5,hG5⟩|⟨rfl,Y5,hJ5,hF5,hG5⟩)
    ·gi_wp2
     refine⟨Y5,?_,hF5,hG5⟩
     show J (dn++(pre2++[x2])) Y5 Wf
     rw [← List.append_assoc];exact hJ5
    ·gi_wp2
     exact⟨Y5,⟨rfl,_,HQ.out,by simp,hJ5⟩,hF5,hG5⟩
   ·rintro Y2 Wg hJg hFg hGg
    gi_wp2
    refine⟨Y2,?_,(Fr.of_below b26).trans hFg,(aJ.refl W₂ Y').trans b26.size hGg⟩
    show J _ _ _
    rw [jK,List.length_singleton,HT.out,HF.out]
    exact hJg
   ·rintro c pre2 Y2 Wg hpre hne ⟨rfl,pp,h1,h2,h3⟩ hFg hGg
    gi_wp2
    exact⟨Y2,⟨rfl,pp,h1,h2,h3⟩,(Fr.of_below b26).trans hFg,(aJ.refl W₂ Y').trans b26.size hGg⟩
 ·rintro D Y2 Wg hD hYD hJg hFg hGg hDW
  have hJg':J (lvs (h+1) (.branch p ks kids) s q) Y2 Wg:=by
   have e:(parts s ks kids).take (parts s g.keys g.kids).length=parts s ks kids:=by rw [hxs,List.length_map,List.take_length]
   rw [HLV.out,← e];exact hJg
  clear hJg hxs
  gi_wp2
  refine lR rfl hDW ⟨⟨_,rfl⟩,Y2,(((f5.mono (fun _ h=>h.elim)).trans hFg).putObj (.inr (by omega)) _),(aJ.refl W Y).trans f5.size hGg,.inl (sJ _ _ _ _ hJg' ((On.refl _ _).putObj hYD _))⟩
 ·rintro D c pre Y2 Wg hD hYD hpre hne ⟨rfl,pp,h1,h2,h3⟩ hFg hGg hDW
  clear hxs
  gi_wp2
  refine lR rfl hDW ⟨⟨_,rfl⟩,Y2,(((f5.mono (fun _ h=>h.elim)).trans hFg).putObj (.inr (by omega)) _),(aJ.refl W Y).trans f5.size hGg,.inr ⟨pp,h1,h2,sJx _ _ _ _ h3 ((On.refl _ _).putObj hYD _)⟩⟩
theorem Mg (β:Nat) (sv lv:Value) (fs:Fs) (hl:(fs.life==0)=false) (root:Int) (ca:Option Addr) (cn cc:Nat) (q:Sp):∀ h,Pk β sv lv fs root ca cn cc q h:=by
 intro h
 induction h with
 | zero =>
  intro t s ht bt bp bw bq Rd w xt xp xw xq hf r1 r2 r3 r4 rf
  cases t with
  | leaf p es=>exact Mf β sv lv fs hl root ca cn cc p es s q ht bt bp bw bq Rd w xt xp xw xq hf r1 r2 r3 r4 rf
  | branch p ks kids=>exact ht.elim
 | succ h ih =>
  intro t s ht bt bp bw bq Rd w xt xp xw xq hf r1 r2 r3 r4 rf
  cases t with
  | leaf p es=>exact ht.elim
  | branch p ks kids=>exact Fg β sv lv fs hl root ca cn cc q h ih p ks kids s ht bt bp bw bq Rd w xt xp xw xq hf r1 r2 r3 r4 rf
