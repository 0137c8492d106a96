/-
  Joined: Grown, Plann, Dplan, PGrow, Sure, ComF, Comm.
-/
import Derived.Test.YtfnhmpcpeahfkaaGreatU48
set_option linter.unusedSimpArgs false
set_option linter.unusedVariables false
set_option maxRecDepth 100000
set_option maxHeartbeats 8000000
namespace Go.Proofs.YtfnhmpcpeahfkaaGreat.Tree
open Go.RowKit Pages
variable {K:List ByteArray} {N:List NT} {cs:List Ch} {fs:Fs} {ms:List MN} {n:Nat} {w:World}
theorem qWb (n:NT):(nd0 n).sp=n.sp:=by cases n<;>rfl
theorem uK (n:NT):(nd0 n).kids=[]:=by cases n<;>rfl
theorem qPs (N:List NT):tot rX (N.map nd0)=tot yK N:=by
 rw [yO,yO,List.map_map]
 congr 1
 apply List.map_congr_left
 intro n _
 show rX (nd0 n)=yK n
 rw [rX,yK,qWb]
def mH (N:List NT):List Nd:=match N with
 | []=>[]
 | [n]=>[nd0 n]
 | n :: m :: r=>[iB ((n :: m :: r).map nd0)]
theorem pS (h:2≤N.length):mH N=[iB (N.map nd0)]:=by
 match N,h with
 | n :: m :: r,_=>rfl
theorem nJ (h:N.length≤1):mH N=N.map nd0:=by
 match N,h with
 | [],_=>rfl
 | [n],_=>rfl
theorem iK.kn {S:Bl} {n:Nd} {m:MN} (h:iK w S n m):m.kn=n.kids.length:=by cases h;assumption
theorem qVo (cs:List Ch):eF cs ⟨⟨#[]⟩,⟨#[]⟩⟩=cs:=by
 unfold eF
 rw [List.filter_eq_self]
 intro c _
 exact qGq _
def sliceLen:Value→Nat
 | .slice _ n _=>n
 | _=>0
def qFf (v:Value) (w:World):Nat:=match v with
 | .slice (some ad) n _=>if n=1 then (match w.cell? (ad.add 4) with|some (.slice _ k _)=>k|_=>0) else 0
 | _=>0
structure iL (w W:World) (L:List Nd) (a:Option Addr) (c:Nat) (ms:List MN):Prop where
 row:aL W (New w W) a (aQ ms)
 nds:bS W (New w W) L ms
 cap:ms.length≤c
 new:Below w.heap.size w W
theorem iL.of_own {w W:World} {L:List Nd} {v:Value}  (ho:W.ownsRow 0 224 5 v ms.length (aQ ms)) (hN:bS W (New w W) L ms) (hb:Below w.heap.size w W) (hl:∀ k,v.ownBlock=some k→w.heap.size≤k):∃ a c,v=.slice a ms.length c∧iL w W L a c ms:=by
 obtain⟨a,c,rfl,hc,hr⟩:=cU ho
 exact⟨a,c,rfl,hr.mono (fun k hk=>⟨hl k hk,bI ho hk⟩),hN,hc,hb⟩
theorem bS.lo_le {S:Bl}   (h:bS w S (N.map nd0) ms) (hlo:∀ n∈N,n.sp.lo.size≤24):∀ x∈ms,x.lo.size≤24:=by
 intro x hx
 obtain⟨i,hi,rfl⟩:=List.getElem_of_mem hx
 have h1:i<N.length:=by have:=h.1;rw [List.length_map] at this;omega
 have h2:=(h.2 i (nd0 N[i]) ms[i] (by rw [List.getElem?_map,List.getElem?_eq_getElem h1];rfl) (List.getElem?_eq_getElem hi)).lo
 rw [h2,qWb]
 exact hlo _ (List.getElem_mem h1)
theorem qGd {w W:World}  {a:Option Addr} {c:Nat}  (h:iL w W (N.map nd0) a c ms) (hlo:∀ n∈N,n.sp.lo.size≤24) (ht:tot yK N≤250) (h2:0<N.length) (hn:N.length≤100000) :
  Calls Tryz.prog 165 #[.slice a ms.length c] W fun e w'=>∃ a' c' ms',e=.returned (.slice a' 1 c')∧ms'.length=1∧iL w w' [iB (N.map nd0)] a' c' ms':=by
 have hl:ms.length=N.length:=by have:=h.nds.1;rwa [List.length_map] at this
 have hf:=h.nds.lo_le hlo
 refine(pM a c ms (New w W) W h.row (fun k hk=>hk.2) (by omega) h.cap (fun x hx=>hf x hx) (fun x hx=>by have:=hf x hx;unfold ksz;omega)).mono ?_
 rintro e w' ⟨v,qs,rfl,ho,hq,hr,hb,hlie⟩
 have hs:=hb.size
 have hs0:=h.new.size
 have hN':bS w' (New w w') (N.map nd0) ms:=(h.nds.on (On.of_below hb (fun k hk=>hk.2))).mono (fun k hk=>⟨hk.1,by have:=hk.2;omega⟩)
 have hB:=qLv (w:=w) hN' hq (fun q hq=>⟨(hr q hq).1,(hr q hq).2.mono (fun k hk=>⟨hk.1,by have:=hk.2;omega⟩)⟩)
 have ec:dZ rX (N.map nd0)=[N.map nd0]:=by
  rw [rQ _ _ (by rw [qPs];exact ht),if_neg (by rw [List.length_map];omega)]
 rw [ec] at hB
 have hql:qs.length=1:=by have:=hB.1;simpa using this
 have ho':w'.ownsRow 0 224 5 v (qs.map jU).length (aQ (qs.map jU)):=by rw [List.length_map];exact ho
 obtain⟨a',c',rfl,hL⟩:=iL.of_own ho' hB (h.new.trans (hb.mono hs0)) (fun k hk=>Nat.le_trans hs0 (hlie k hk))
 refine⟨a',c',qs.map jU,?_,by rw [List.length_map];exact hql,hL⟩
 rw [List.length_map,hql]
structure tQ (fs:Fs) (o:Option (Nat×T)) (cs:List Ch):Prop where
 lo:∀ n∈cG o cs,n.sp.lo.size≤24
 tot:tot yK (cG o cs)≤250
 len:(cG o cs).length≤1000
 good:∀ c∈cs,c.good
 on:(bK (fA o) cs).length≤100000
 br:∀ p ks kids,o=some (1,.branch p ks kids)→(∀ x∈parts ⟨⟨#[]⟩,⟨#[]⟩⟩ ks kids,0<x.1.place)∧(∀ x∈parts ⟨⟨#[]⟩,⟨#[]⟩⟩ ks kids,∀ q es,x.1=.leaf q es→(bK es (eF cs x.2)).length≤100000)∧qYd fs ((parts ⟨⟨#[]⟩,⟨#[]⟩⟩ ks kids).flatMap (fun x=>eT x cs))
theorem qOi (β:Nat) (sv lv:Value) (fs:Fs) (hl:(fs.life==0)=false) (p:Nat) (es:List En) (hp:0<p) (ht:aX fs 0 (.leaf p es) ⟨⟨#[]⟩,⟨#[]⟩⟩) (ca:Option Addr) (cc:Nat) (cs:List Ch) (S:Bl) (w:World) (hf:aH w β sv lv fs) (hR:aL w S ca (cs.flatMap Ch.cells)) (hS:∀ b,S b→b<w.heap.size) (hr:cI cs) (hn:cs.length≤1000) (hc:cs.length≤cc) (hca:(ca=none∧cc=0)∨∃ b off,ca=some ⟨b,off,none⟩) (hG:tQ fs (some (0,T.leaf p es)) cs) :
  Calls Tryz.prog 146 #[.agg #[.pointer (some ⟨β,0,none⟩),.int .i64 (p:Nat),.slice ca cs.length cc]] w fun e w'=>∃ a c ms,e=.returned (.slice a ms.length c)∧iL w w' (mH (cG (some (0,T.leaf p es)) cs)) a c ms:=by
 obtain⟨N,hNd⟩:=nM (cG (some (0,T.leaf p es)) cs)
 have HND:Hid (cG (some (0,T.leaf p es)) cs=N):=hNd
 have hlo:=hG.lo
 have htot:=hG.tot
 have hlen:=hG.len
 rw [hNd] at hlo htot hlen
 obtain⟨W1,hW1⟩:=nM (w.alloc (kK β (p:Nat) ca cs.length cc))
 have B1:Below w.heap.size w W1:=hW1▸(Below.refl _ _).alloc (Nat.le_refl _) _
 have t1:W1.heap[w.heap.size]?=some (kK β (p:Nat) ca cs.length cc):=hW1▸aB w _
 obtain⟨m0,m1,m2⟩:=dM t1
 have hf1:aH W1 β sv lv fs:=hf.on (On.of_below B1 hf.lies)
 have hR1:aL W1 S ca (cs.flatMap Ch.cells):=hR.on (On.of_below B1 hS)
 have hS1:∀ k,S k→k<W1.heap.size:=fun k hk=>Nat.lt_of_lt_of_le (hS k hk) B1.size
 have hpb:¬ ((p:Int)=0):=by omega
 have hCh:=vE β sv lv fs hl (p:Nat) ca cs.length cc p ⟨⟨#[]⟩,⟨#[]⟩⟩ es cs ca cc S W1 ht hf1 hR1 hS1 hr hG.good hn hc hca hG.on
 have HLV:Hid ((cQ (bK es cs)).map nd0=N.map nd0):=by show _=_;rw [← hNd];rfl
 clear hNd hR hR1 hf hf1 ht
 go_enter Tryz.func146,Tryz.ntmps146
 go_wp2_with (go_at_call 164;(with_reducible refine Calls.mono hCh ?_);rintro e X ⟨v,ms0,rfl,ho,hN,hb,hli⟩)
 rw [HLV.out] at hN
 have zX:=hb.size
 have zW1:=B1.size
 obtain⟨a0,c0,rfl,hL0⟩:=iL.of_own (w:=w) ho (hN.mono (fun k hk=>⟨Nat.le_trans zW1 hk.1,hk.2⟩)) (B1.trans (hb.mono zW1)) (fun k hk=>Nat.le_trans zW1 (hli k hk))
 clear hCh ho hN hli
 go_loopw [3] (fun v wq=>∃ a c ms L,v=.slice a ms.length c∧Hid (iL w wq L a c ms)∧Hid (L=N.map nd0∨(2≤N.length∧L=[iB (N.map nd0)]))) (fun v _=>sliceLen v)
 case atStart=>exact⟨a0,c0,ms0,N.map nd0,rfl,hL0,.inl rfl⟩
 case round =>
  obtain⟨a,c,ms,L,rfl,HL,HC⟩:=hrel
  have hL:=HL.out
  have hll:=hL.nds.1
  by_cases hgt:1<ms.length
  ·have hgti:(1:Int)<(ms.length:Int):=by omega
   have hLN:L=N.map nd0:=by
    rcases HC.out with h|⟨_,h⟩
    ·exact h
    ·rw [h] at hll;simp at hll;omega
   subst hLN
   rw [List.length_map] at hll
   have hNB:=qGd hL hlo htot (by omega) (by omega)
   clear hll hL
   go_wp2_with (go_at_call 165;(with_reducible refine Calls.mono hNB ?_);rintro e wX ⟨a',c',ms',rfl,hm1,hL'⟩)
   exact⟨⟨a',c',ms',_,by rw [hm1],hL',.inr ⟨by have:=HL.out.nds.1;rw [List.length_map] at this;omega,rfl⟩⟩,by simp [sliceLen];omega⟩
  ·have hgti:¬ (1:Int)<(ms.length:Int):=by omega
   have hTop:L=mH N:=by
    rcases HC.out with h|⟨h1,h⟩
    ·rw [h];rw [h,List.length_map] at hll;exact(nJ (by omega)).symm
    ·rw [h];exact(pS h1).symm
   have hnk:∀ (j:Nat) (hj:j<ms.length),ms[j].kn≠1:=fun j hj=>by
    have hj':j<L.length:=by omega
    have h1:=(hL.nds.2 j L[j] ms[j] (List.getElem?_eq_getElem hj') (List.getElem?_eq_getElem hj)).kn
    rw [h1]
    rcases HC.out with h|⟨h1,h⟩
    ·subst h
     rw [List.getElem_map,uK];simp
    ·subst h
     have:j=0:=by simp at hj';omega
     subst this
     show ((N.map nd0).length:Nat)≠1
     rw [List.length_map];omega
   have HT:Hid (iL w wr (mH (cG (some (0,T.leaf p es)) cs)) a c ms):=by rw [HND.out,← hTop];exact hL
   rcases Nat.lt_or_ge 0 ms.length with h0|h0
   ·have h01:ms.length=1:=by omega
    obtain⟨rb,ro,rfl,_,n0,n1,n2,n3,n4⟩:=hL.row.nod h0
    have hk:=hnk 0 h0
    obtain⟨m,hm⟩:=nM (ms[0])
    rw [hm] at n0 n1 n2 n3 n4 hk
    have hki:¬ ((m.kn:Int)=1):=by omega
    rw [h01]
    have HM1:Hid (ms.length=1):=h01
    clear hnk hTop hll hL hm h01 h0 hgt hgti
    go_wp2
    go_loopw [3] (fun v wq=>v=.slice (some ⟨rb,ro,none⟩) 1 c∧wq=wr) (fun _ _=>0)
    case atStart=>exact⟨rfl,rfl⟩
    case round =>
     obtain⟨rfl,hwr⟩:=hrel
     subst hwr
     go_wp2
     go_ret
     exact⟨_,c,ms,by rw [HM1.out];rfl,HT.out⟩
   ·have h00:ms.length=0:=by omega
    rw [h00]
    have HM1:Hid (ms.length=0):=h00
    clear hnk hTop hll hL h00 h0 hgt hgti
    go_wp2
    go_loopw [3] (fun v wq=>v=.slice a 0 c∧wq=wr) (fun _ _=>0)
    case atStart=>exact⟨rfl,rfl⟩
    case round =>
     obtain⟨rfl,hwr⟩:=hrel
     subst hwr
     go_wp2
     go_ret
     exact⟨_,c,ms,by rw [HM1.out];rfl,HT.out⟩
theorem qOh (β:Nat) (sv lv:Value) (fs:Fs) (hl:(fs.life==0)=false)  (ca:Option Addr) (cc:Nat) (cs:List Ch) (S:Bl) (w:World) (hf:aH w β sv lv fs) (hR:aL w S ca (cs.flatMap Ch.cells)) (hS:∀ b,S b→b<w.heap.size) (hr:cI cs) (hn:cs.length≤1000) (hc:cs.length≤cc) (hca:(ca=none∧cc=0)∨∃ b off,ca=some ⟨b,off,none⟩) (hG:tQ fs none cs) :
  Calls Tryz.prog 146 #[.agg #[.pointer (some ⟨β,0,none⟩),.int .i64 0,.slice ca cs.length cc]] w fun e w'=>∃ a c ms,e=.returned (.slice a ms.length c)∧iL w w' (mH (cG none cs)) a c ms:=by
 obtain⟨N,hNd⟩:=nM (cG none cs)
 have HND:Hid (cG none cs=N):=hNd
 have hlo:=hG.lo
 have htot:=hG.tot
 have hlen:=hG.len
 rw [hNd] at hlo htot hlen
 obtain⟨W1,hW1⟩:=nM (w.alloc (kK β 0 ca cs.length cc))
 have B1:Below w.heap.size w W1:=hW1▸(Below.refl _ _).alloc (Nat.le_refl _) _
 have t1:W1.heap[w.heap.size]?=some (kK β 0 ca cs.length cc):=hW1▸aB w _
 obtain⟨m0,m1,m2⟩:=dM t1
 have hf1:aH W1 β sv lv fs:=hf.on (On.of_below B1 hf.lies)
 have hR1:aL W1 S ca (cs.flatMap Ch.cells):=hR.on (On.of_below B1 hS)
 have hS1:∀ k,S k→k<W1.heap.size:=fun k hk=>Nat.lt_of_lt_of_le (hS k hk) B1.size
 have hEn:=uX β sv lv fs hl 0 ca cc cs ⟨⟨#[]⟩,⟨#[]⟩⟩ none rfl S W1 hf1 hR1 hS1 hr (by omega) hc hca
 rw [qVo] at hEn
 have HON:Hid ((bK (cK ⟨⟨#[]⟩,⟨#[]⟩⟩ none) cs).length≤100000):=hG.on
 have HGD:Hid (∀ x∈bK (cK ⟨⟨#[]⟩,⟨#[]⟩⟩ none) cs,x.good fs):=eW (fs:=fs) (es:=[]) .nil hr (by simp) hG.good
 have HLV:Hid ((dZ esz (bK (cK ⟨⟨#[]⟩,⟨#[]⟩⟩ none) cs)).map vZ=N.map nd0):=by show _=_;rw [← hNd];exact(sW _).symm
 obtain⟨ys,hys⟩:=nM (bK (cK ⟨⟨#[]⟩,⟨#[]⟩⟩ none) cs)
 rw [hys] at hEn HON HGD HLV
 have hfl:∀ k,fpF β sv lv k→k<W1.heap.size:=fun k hk=>hf1.lies k hk
 clear hNd hR hR1 hf hf1 hys
 go_enter Tryz.func146,Tryz.ntmps146
 go_wp2_with (first
  | (go_at_call 110;(with_reducible refine Calls.mono hEn ?_);rintro e X ⟨lb,rfl,hIt,hbX⟩;have hCo:=xV 148 lb (enters_of Tryz.func148 (by kernel_rfl) rfl) ys _ X hIt (fun k hk=>(by rcases hk with hk|hk|hk;have:=hS1 k hk;have:=hbX.size;omega;have:=hfl k hk;have:=hbX.size;omega;exact hk.2)) (by have:=HON.out;omega))
  | (go_at_call 163;(with_reducible refine Calls.mono hCo ?_);rintro e X2 ⟨vC,rfl,hoC,hbC,hliC⟩;obtain⟨va,vc,rfl,hvc,hrow⟩:=cU hoC;have hNL:=mZ va vc ys (fun k=>X.heap.size≤k∧k<X2.heap.size) X2 (hrow.mono (fun k hk=>⟨hliC k hk,bI hoC hk⟩)) (fun k hk=>hk.2) (by have:=HON.out;omega) hvc (fun x hx=>oB (HGD.out x hx)) (mS HGD.out))
  | (go_at_call 162;(with_reducible refine Calls.mono hNL ?_);rintro e X3 ⟨vL,qs,rfl,hoL,hql,hqr,hbL,hliL⟩))
 have zX:=hbX.size
 have zC:=hbC.size
 have zL:=hbL.size
 have zW1:=B1.size
 have hN:=vY (S:=New w X3) (fun q hq=>⟨(hqr q hq).1,(hqr q hq).2.mono (fun k hk=>⟨by have:=hk.1;omega,by have:=hk.2;omega⟩)⟩)
 rw [hql,HLV.out] at hN
 have hoL':X3.ownsRow 0 224 5 vL (qs.map jH).length (aQ (qs.map jH)):=by rw [List.length_map];exact hoL
 obtain⟨a0,c0,rfl,hL0⟩:=iL.of_own (w:=w) hoL' hN (((B1.trans (hbX.mono zW1)).trans (hbC.mono (by omega))).trans (hbL.mono (by omega))) (fun k hk=>by have:=hliL k hk;omega)
 obtain⟨ms0,hms0⟩:=nM (qs.map jH)
 rw [hms0] at hL0 ⊢
 clear hEn hCo hNL hoC hoL hN hliL hliC hIt hoL' hms0 hql hqr
 go_loopw [3] (fun v wq=>∃ a c ms L,v=.slice a ms.length c∧Hid (iL w wq L a c ms)∧Hid (L=N.map nd0∨(2≤N.length∧L=[iB (N.map nd0)]))) (fun v _=>sliceLen v)
 case atStart=>exact⟨a0,c0,ms0,N.map nd0,rfl,hL0,.inl rfl⟩
 case round =>
  obtain⟨a,c,ms,L,rfl,HL,HC⟩:=hrel
  have hL:=HL.out
  have hll:=hL.nds.1
  by_cases hgt:1<ms.length
  ·have hgti:(1:Int)<(ms.length:Int):=by omega
   have hLN:L=N.map nd0:=by
    rcases HC.out with h|⟨_,h⟩
    ·exact h
    ·rw [h] at hll;simp at hll;omega
   subst hLN
   rw [List.length_map] at hll
   have hNB:=qGd hL hlo htot (by omega) (by omega)
   clear hll hL
   go_wp2_with (go_at_call 165;(with_reducible refine Calls.mono hNB ?_);rintro e wX ⟨a',c',ms',rfl,hm1,hL'⟩)
   exact⟨⟨a',c',ms',_,by rw [hm1],hL',.inr ⟨by have:=HL.out.nds.1;rw [List.length_map] at this;omega,rfl⟩⟩,by simp [sliceLen];omega⟩
  ·have hgti:¬ (1:Int)<(ms.length:Int):=by omega
   have hTop:L=mH N:=by
    rcases HC.out with h|⟨h1,h⟩
    ·rw [h];rw [h,List.length_map] at hll;exact(nJ (by omega)).symm
    ·rw [h];exact(pS h1).symm
   have hnk:∀ (j:Nat) (hj:j<ms.length),ms[j].kn≠1:=fun j hj=>by
    have hj':j<L.length:=by omega
    have h1:=(hL.nds.2 j L[j] ms[j] (List.getElem?_eq_getElem hj') (List.getElem?_eq_getElem hj)).kn
    rw [h1]
    rcases HC.out with h|⟨h1,h⟩
    ·subst h
     rw [List.getElem_map,uK];simp
    ·subst h
     have:j=0:=by simp at hj';omega
     subst this
     show ((N.map nd0).length:Nat)≠1
     rw [List.length_map];omega
   have HT:Hid (iL w wr (mH (cG none cs)) a c ms):=by rw [HND.out,← hTop];exact hL
   rcases Nat.lt_or_ge 0 ms.length with h0|h0
   ·have h01:ms.length=1:=by omega
    obtain⟨rb,ro,rfl,_,n0,n1,n2,n3,n4⟩:=hL.row.nod h0
    have hk:=hnk 0 h0
    obtain⟨m,hm⟩:=nM (ms[0])
    rw [hm] at n0 n1 n2 n3 n4 hk
    have hki:¬ ((m.kn:Int)=1):=by omega
    rw [h01]
    have HM1:Hid (ms.length=1):=h01
    clear hnk hTop hll hL hm h01 h0 hgt hgti
    go_wp2
    go_loopw [3] (fun v wq=>v=.slice (some ⟨rb,ro,none⟩) 1 c∧wq=wr) (fun _ _=>0)
    case atStart=>exact⟨rfl,rfl⟩
    case round =>
     obtain⟨rfl,hwr⟩:=hrel
     subst hwr
     go_wp2
     go_ret
     exact⟨_,c,ms,by rw [HM1.out];rfl,HT.out⟩
   ·have h00:ms.length=0:=by omega
    rw [h00]
    have HM1:Hid (ms.length=0):=h00
    clear hnk hTop hll hL h00 h0 hgt hgti
    go_wp2
    go_loopw [3] (fun v wq=>v=.slice a 0 c∧wq=wr) (fun _ _=>0)
    case atStart=>exact⟨rfl,rfl⟩
    case round =>
     obtain⟨rfl,hwr⟩:=hrel
     subst hwr
     go_wp2
     go_ret
     exact⟨_,c,ms,by rw [HM1.out];rfl,HT.out⟩
theorem qHe (β:Nat) (sv lv:Value) (fs:Fs) (hl:(fs.life==0)=false) (p:Nat) (ks:List ByteArray) (kids:List T) (hp:0<p) (ht:aX fs 1 (.branch p ks kids) ⟨⟨#[]⟩,⟨#[]⟩⟩) (ca:Option Addr) (cc:Nat) (cs:List Ch) (S:Bl) (w:World) (hf:aH w β sv lv fs) (hR:aL w S ca (cs.flatMap Ch.cells)) (hS:∀ b,S b→b<w.heap.size) (hr:cI cs) (hn:cs.length≤1000) (hc:cs.length≤cc) (hca:(ca=none∧cc=0)∨∃ b off,ca=some ⟨b,off,none⟩) (hG:tQ fs (some (1,T.branch p ks kids)) cs) :
  Calls Tryz.prog 146 #[.agg #[.pointer (some ⟨β,0,none⟩),.int .i64 (p:Nat),.slice ca cs.length cc]] w fun e w'=>∃ a c ms,e=.returned (.slice a ms.length c)∧iL w w' (mH (cG (some (1,T.branch p ks kids)) cs)) a c ms:=by
 obtain⟨N,hNd⟩:=nM (cG (some (1,T.branch p ks kids)) cs)
 have HND:Hid (cG (some (1,T.branch p ks kids)) cs=N):=hNd
 have hlo:=hG.lo
 have htot:=hG.tot
 have hlen:=hG.len
 rw [hNd] at hlo htot hlen
 obtain⟨W1,hW1⟩:=nM (w.alloc (kK β (p:Nat) ca cs.length cc))
 have B1:Below w.heap.size w W1:=hW1▸(Below.refl _ _).alloc (Nat.le_refl _) _
 have t1:W1.heap[w.heap.size]?=some (kK β (p:Nat) ca cs.length cc):=hW1▸aB w _
 obtain⟨m0,m1,m2⟩:=dM t1
 have hf1:aH W1 β sv lv fs:=hf.on (On.of_below B1 hf.lies)
 have hR1:aL W1 S ca (cs.flatMap Ch.cells):=hR.on (On.of_below B1 hS)
 have hS1:∀ k,S k→k<W1.heap.size:=fun k hk=>Nat.lt_of_lt_of_le (hS k hk) B1.size
 have hpb:¬ ((p:Int)=0):=by omega
 obtain⟨g1,g2,g3⟩:=hG.br p ks kids rfl
 have hCh:=qCf β sv lv fs hl (p:Nat) ca cs.length cc p ⟨⟨#[]⟩,⟨#[]⟩⟩ ks kids cs ca cc S W1 ht hf1 hR1 hS1 hr hG.good hn hc hca g1 g2 g3
 have HLV:Hid ((dZ rX ((kD eB ((parts ⟨⟨#[]⟩,⟨#[]⟩⟩ ks kids).flatMap (fun x=>eT x cs))).map nd0)).map iB=if N.length=0 then [] else [iB (N.map nd0)]):=by
  show _=_
  have e:kD eB ((parts ⟨⟨#[]⟩,⟨#[]⟩⟩ ks kids).flatMap (fun x=>eT x cs))=N:=by rw [← hNd];rfl
  rw [e,rQ _ _ (by rw [qPs];exact htot),List.length_map]
  split<;>rfl
 clear hNd hR hR1 hf hf1 ht g1 g2 g3
 go_enter Tryz.func146,Tryz.ntmps146
 go_wp2_with (go_at_call 164;(with_reducible refine Calls.mono hCh ?_);rintro e X ⟨v,ms0,rfl,ho,hN,hb,hli⟩)
 rw [HLV.out] at hN
 have zX:=hb.size
 have zW1:=B1.size
 obtain⟨a0,c0,rfl,hL0⟩:=iL.of_own (w:=w) ho (hN.mono (fun k hk=>⟨Nat.le_trans zW1 hk.1,hk.2⟩)) (B1.trans (hb.mono zW1)) (fun k hk=>Nat.le_trans zW1 (hli k hk))
 clear hCh ho hN hli
 go_loopw [3] (fun v wq=>v=.slice a0 ms0.length c0∧wq=X) (fun _ _=>0)
 case atStart=>exact⟨rfl,rfl⟩
 case round =>
  obtain⟨rfl,hwr⟩:=hrel
  subst hwr
  have hm1:ms0.length≤1:=by
   have:=hL0.nds.1
   by_cases h:N.length=0
   ·rw [if_pos h] at this;rw [this];exact Nat.zero_le _
   ·rw [if_neg h] at this;rw [this];exact Nat.le_refl _
  have hgti:¬ (1:Int)<(ms0.length:Int):=by omega
  have HL0:Hid _:=hL0
  clear hm1 hL0
  go_wp2
  go_loopw [3] (fun v wq=>∃ a c ms L,v=.slice a ms.length c∧Hid (iL w wq L a c ms)∧Hid ((L=if N.length=0 then [] else [iB (N.map nd0)])∨L=mH N)) (fun v wq=>qFf v wq)
  case atStart=>exact⟨a0,c0,ms0,_,rfl,HL0.out,.inl rfl⟩
  case round =>
   obtain⟨a,c,ms,L,rfl,HL,HC⟩:=hrel
   have hL:=HL.out
   have hll:=hL.nds.1
   have hL1:L.length≤1:=by
    rcases HC.out with h|h
    ·rw [h];split<;>simp
    ·rw [h]
     rcases Nat.lt_or_ge N.length 2 with h2|h2
     ·rw [nJ (by omega),List.length_map];omega
     ·rw [pS h2];simp
   rcases Nat.lt_or_ge 0 ms.length with h0|h0
   ·have h01:ms.length=1:=by omega
    obtain⟨rb,ro,rfl,_,n0,n1,n2,n3,n4⟩:=hL.row.nod h0
    obtain⟨m,hm⟩:=nM (ms[0])
    have hl0:0<L.length:=by omega
    have hnd:=hL.nds.2 0 L[0] ms[0] (List.getElem?_eq_getElem hl0) (List.getElem?_eq_getElem h0)
    rw [hm] at n0 n1 n2 n3 n4 hnd
    by_cases hk:m.kn=1
    ·-- a branch of one kid
     have hkn:=hnd.kn
     rw [hk] at hkn
     have hLb:N.length=1∧L=[iB (N.map nd0)]:=by
      have key:∀ (M:List Nd),L=M→∀ h:0<M.length,M[0].kids.length=1→L=M:=fun M e _ _=>e
      rcases HC.out with h|h
      ·by_cases hN0:N.length=0
       ·rw [if_pos hN0] at h;subst h;simp at hl0
       ·rw [if_neg hN0] at h
        subst h
        have:(N.map nd0).length=1:=hkn.symm
        rw [List.length_map] at this
        exact⟨this,rfl⟩
      ·rcases Nat.lt_or_ge N.length 2 with h2|h2
       ·rw [nJ (by omega)] at h
        subst h
        rw [List.getElem_map,uK] at hkn
        simp at hkn
       ·rw [pS h2] at h
        subst h
        have:(N.map nd0).length=1:=hkn.symm
        rw [List.length_map] at this
        omega
     obtain⟨hN1,hLe⟩:=hLb
     subst hLe
     have hnd':iK wr (New w wr) (iB (N.map nd0)) m:=hnd
     obtain⟨_,_,_,_,_,msk,g1,g2,g3,g4,g5,g6,g7,g8,g9,g10,g11⟩:=hnd'
     rw [List.length_map] at g7 g10
     have HL':Hid (iL w wr (mH N) m.ka m.kc msk):=by
      rw [nJ (by omega)]
      exact⟨g9,⟨by rw [List.length_map];exact g10,g11⟩,by omega,hL.new⟩
     have hmk1:msk.length=1:=by omega
     have hki:((m.kn:Int)==1)=true:=by rw [hk];rfl
     have HMK:Hid (msk.length=1):=hmk1
     have HKN:Hid (m.kn=1):=hk
     obtain⟨rb',ro',hka,_,r0,r1,r2,r3,r4⟩:=HL'.out.row.nod (show 0<msk.length by omega)
     have hkk:(msk[0]'(by omega)).kn=0:=by
      have h1:=HL'.out.nds.2 0 (nd0 (N[0]'(by omega))) (msk[0]'(by omega)) (by rw [nJ (by omega),List.getElem?_map,List.getElem?_eq_getElem (by omega)];rfl) (List.getElem?_eq_getElem (by omega))
      rw [h1.kn,uK];rfl
     rw [hkk] at r4
     have HME:Hid (qFf (.slice m.ka 1 m.kc) wr<qFf (.slice (some ⟨rb,ro,none⟩) 1 c) wr):=by
      show qFf _ _<qFf _ _
      rw [hka]
      have e1:wr.cell? ((⟨rb',ro',none⟩:Addr).add 4)=some (.slice (msk[0]'(by omega)).ka 0 (msk[0]'(by omega)).kc):=by
       rw [Addr.add_lit];simpa using r4
      have e2:wr.cell? ((⟨rb,ro,none⟩:Addr).add 4)=some (.slice m.ka m.kn m.kc):=by
       rw [Addr.add_lit];simpa using n4
      simp only [qFf,if_true,e1,e2,HKN.out]
      omega
     rw [h01]
     rw [hk] at n4
     clear hnd hkn hL hll hL1 g1 g2 g3 g4 g5 g6 g7 g8 g9 g10 g11 hmk1 h01 h0 hl0 hk hm r0 r1 r2 r3 r4 hkk hka hki
     go_wp2
     exact⟨⟨m.ka,m.kc,msk,_,by rw [HMK.out],HL'.out,.inr rfl⟩,HME.out⟩
    ·have hki:¬ ((m.kn:Int)=1):=by omega
     have hTop:L=mH N:=by
      rcases HC.out with h|h
      ·by_cases hN0:N.length=0
       ·rw [if_pos hN0] at h;subst h;simp at hl0
       ·rw [if_neg hN0] at h
        subst h
        have hkn:=hnd.kn
        have e:(iB (N.map nd0)).kids.length=N.length:=by show (N.map nd0).length=_;rw [List.length_map]
        have:([iB (N.map nd0)][0]'hl0).kids.length=N.length:=e
        rw [this] at hkn
        exact(pS (by omega)).symm
      ·exact h
     have HT:Hid (iL w wr (mH (cG (some (1,T.branch p ks kids)) cs)) (some ⟨rb,ro,none⟩) c ms):=by rw [HND.out,← hTop];exact hL
     rw [h01]
     have HM1:Hid (ms.length=1):=h01
     clear hTop hll hL hm h01 h0 hnd hL1 hl0
     go_wp2
     go_ret
     exact⟨_,c,ms,by rw [HM1.out];rfl,HT.out⟩
   ·have h00:ms.length=0:=by omega
    have hTop:L=mH N:=by
     rcases HC.out with h|h
     ·have h3:L.length=0:=by omega
      have:N.length=0:=by
       by_cases hN0:N.length=0
       ·exact hN0
       ·rw [if_neg hN0] at h;rw [h] at h3;simp at h3
      rw [List.eq_nil_of_length_eq_zero h3,List.eq_nil_of_length_eq_zero this];rfl
     ·exact h
    have HT:Hid (iL w wr (mH (cG (some (1,T.branch p ks kids)) cs)) a c ms):=by rw [HND.out,← hTop];exact hL
    rw [h00]
    have HM1:Hid (ms.length=0):=h00
    clear hTop hll hL h00 h0 hL1
    go_wp2
    go_ret
    exact⟨_,c,ms,by rw [HM1.out];rfl,HT.out⟩
theorem qTh (β:Nat) (sv lv:Value) (fs:Fs) (hl:(fs.life==0)=false) (o:Option (Nat×T)) (root:Nat) (hro:bF fs root o) (hf2:gR o) (ca:Option Addr) (cc:Nat) (cs:List Ch) (S:Bl) (w:World) (hf:aH w β sv lv fs) (hR:aL w S ca (cs.flatMap Ch.cells)) (hS:∀ b,S b→b<w.heap.size) (hr:cI cs) (hn:cs.length≤1000) (hc:cs.length≤cc) (hca:(ca=none∧cc=0)∨∃ b off,ca=some ⟨b,off,none⟩) (hG:tQ fs o cs) :
  Calls Tryz.prog 146 #[.agg #[.pointer (some ⟨β,0,none⟩),.int .i64 (root:Nat),.slice ca cs.length cc]] w fun e w'=>∃ a c ms,e=.returned (.slice a ms.length c)∧iL w w' (mH (cG o cs)) a c ms:=by
 rcases iM hro hf2 with rfl|⟨p,es,rfl,hs⟩|⟨p,ks,kids,rfl,hs⟩
 ·have e:root=0:=hro
  subst e
  exact qOh β sv lv fs hl ca cc cs S w hf hR hS hr hn hc hca hG
 ·obtain⟨h1,h2,_⟩:=hro
  have e:p=root:=h2
  subst e
  exact qOi β sv lv fs hl p es h1 hs ca cc cs S w hf hR hS hr hn hc hca hG
 ·obtain⟨h1,h2,_⟩:=hro
  have e:p=root:=h2
  subst e
  exact qHe β sv lv fs hl p ks kids h1 hs ca cc cs S w hf hR hS hr hn hc hca hG
theorem tH {α:Type} (f:α→List UInt8) (b:Nat):∀ (l:List α),(∀ x∈l,(f x).length≤b)→(l.flatMap f).length≤b * l.length
 | [],_=>by simp
 | x :: l,h=>by
  have h1:=h x (by simp)
  have h2:=tH f b l (fun y hy=>h y (by simp [hy]))
  rw [List.flatMap_cons,List.length_append,List.length_cons,Nat.mul_succ];omega
theorem qSk (b:Nat) (Sf:Bl) (fs:Fs) (ns:List NT) (hne:0<ns.length) (hn:∀ n∈ns,Ok0 fs n∧mG n∧n.ents0.length≤1000) (m:MN) (S:Bl) (fa:Option Addr) (fc:Nat) (fr:List Nat) (wv:Value) (ws:List (Nat×ByteArray)) (w:World) (h:dV w b Sf fa fc fr wv ws) (hm:iK w S (iB (ns.map nd0)) m) (hS:∀ k,S k→k<w.heap.size∧¬ fpL b wv k) (hlen:ns.length≤1000) (hl:(aZ ns fr).2.length<fr.length) (hp:∀ p∈fr,aU (p:Nat)=true) (hws:ws.length+(aZ ns fr).2.length≤10000)
  (hE:(eK (ns.tail.map (fun n=>n.sp.lo)) ((aZ ns fr).1.map T.place)).encE=0) (hsm:(eK (ns.tail.map (fun n=>n.sp.lo)) ((aZ ns fr).1.map T.place)).small) :
  Calls Tryz.prog 147 #[.pointer (some ⟨b,0,none⟩),.agg #[.string m.lo,.string m.hi,.int .i64 m.place,.slice m.ea m.en m.ec,.slice m.ka m.kn m.kc]] w fun e w'=>e=.returned (.int .i64 ((fZ ns fr).1.place:Nat)) ∧
   ∃ fa' fc' wv',dV w' b Sf fa' fc' (fr.drop (fZ ns fr).2.length) wv' (ws++(fZ ns fr).2.map enc1)∧Fr (fpL b wv) w w'∧∀ k,wv'.ownBlock=some k→wv.ownBlock=some k∨w.heap.size≤k:=by
 obtain⟨lo,hi,pl,ea,en,ec,ka,kn,kc⟩:=m
 obtain⟨_,_,_,_,_,ms,g1,g2,g3,g4,g5,g6,g7,g8,g9,g10,g11⟩:=hm
 have g3':pl=0:=g3
 have g4':en=0:=g4
 have g5':kn=ns.length:=by have:kn=(ns.map nd0).length:=g5;rwa [List.length_map] at this
 subst g3' g4' g5'
 obtain⟨W1,hW1⟩:=nM (w.alloc (.cells #[.string lo,.string hi,.int .i64 0,.slice ea 0 ec,.slice ka ns.length kc] 224))
 have b1:Below w.heap.size w W1:=hW1▸(Below.refl _ _).alloc (Nat.le_refl _) _
 have x1:W1.heap[w.heap.size]?=some (.cells #[.string lo,.string hi,.int .i64 0,.slice ea 0 ec,.slice ka ns.length kc] 224):=hW1▸aB w _
 obtain⟨m0,m1,m2,m3,m4⟩:=dC x1
 have h1:=h.fr b1
 have hBr:=qPi b Sf fs ns hn ms ka kc S fa fc fr wv ws W1 h1 (g9.on (On.of_below b1 (fun k hk=>(hS k hk).1))) (⟨g10,fun i k x a b=>(g11 i k x a b).on (On.of_below b1 (fun k hk=>(hS k hk).1))⟩) (fun k hk=>⟨Nat.lt_of_lt_of_le (hS k hk).1 b1.size,(hS k hk).2⟩) hlen (by rw [List.length_map] at g7;exact g7) hl hp hws hE hsm
 have hni:(0:Int)<(ns.length:Int):=by omega
 obtain⟨pp,hpp⟩:=nM ((fZ ns fr).1.place)
 rw [hpp] at hBr
 have HPP:Hid ((fZ ns fr).1.place=pp):=hpp
 clear hpp g1 g2 g3 g4 g5 g6 g7 g8 g9 g10 g11 hl
 go_enter Tryz.func147,Tryz.ntmps147
 go_wp2_with (go_at_call 166;(with_reducible refine Calls.mono hBr ?_);rintro e w2 ⟨rfl,fa2,fc2,wv2,hL2,hF2,hli2⟩)
 go_ret
 rw [HPP.out]
 exact⟨rfl,fa2,fc2,wv2,hL2,(Fr.of_below b1).trans hF2,fun k hk=>(hli2 k hk).imp id (fun h=>Nat.le_trans b1.size h)⟩
structure qRf (fs:Fs) (N:List NT) (fr:List Nat):Prop where
 each:∀ n∈N,Ok0 fs n∧mG n∧n.ents0.length≤1000
 len:N.length≤1000
 room:(bG N fr).2.length≤fr.length
 few:(bG N fr).2.length≤10000
 place:∀ p∈fr,aU (p:Nat)=true
 enc:∀ y∈(bG N fr).2,y.2.encE=0
 lo:∀ n∈N,n.sp.lo.size≤24
theorem qPj {los:List ByteArray} {pls:List Nat} (h1:los.length≤1000) (h2:pls.length≤1000) (h3:∀ k∈los,k.size≤24):(eK los pls).small:=by
 refine⟨by simp [eK];omega,by simp [eK];omega,by simp [eK],by simp [eK],?_,?_,Nat.zero_le _⟩
 ·have e1:=tH (beB 2) 2 (pls.map (fun n:Nat=>(n:Int))) (fun x _=>by rw [aM];exact Nat.le_refl _)
  have e2:=tH dN 1000 los (fun x hx=>by have:=h3 x hx;simp [dN,aM];omega)
  rw [List.length_map] at e1
  show (eA los (pls.map (fun n:Nat=>(n:Int)))).length≤_
  simp only [eA,List.length_append,aM]
  omega
 ·simp [eK,kM,aM]
theorem qIi (b:Nat) (Sf:Bl) (fs:Fs) (N:List NT) (t:Nd) (htN:mH N=[t]) (m:MN) (S:Bl) (fa:Option Addr) (fc:Nat) (fr:List Nat) (wv:Value) (w:World) (h:dV w b Sf fa fc fr wv []) (hm:iK w S t m) (hS:∀ k,S k→k<w.heap.size∧¬ fpL b wv k) (hT:qRf fs N fr) :
  Calls Tryz.prog 147 #[.pointer (some ⟨b,0,none⟩),.agg #[.string m.lo,.string m.hi,.int .i64 m.place,.slice m.ea m.en m.ec,.slice m.ka m.kn m.kc]] w fun e w'=>e=.returned (.int .i64 (rootOf (bG N fr).1:Nat)) ∧
   ∃ fa' fc' wv',dV w' b Sf fa' fc' (fr.drop (bG N fr).2.length) wv' ((bG N fr).2.map enc1)∧Fr (fpL b wv) w w'∧∀ k,wv'.ownBlock=some k→wv.ownBlock=some k∨w.heap.size≤k:=by
 match N,htN,hT with
 | [],h0,_=>simp [mH] at h0
 | [n],h0,hT =>
  simp only [mH,List.cons.injEq,and_true] at h0
  subst h0
  obtain⟨e1,e2,e3⟩:=hT.each n (by simp)
  exact qEn b Sf fs n e1 e2 m S fa fc fr wv [] w h hm (fun k hk=>(hS k hk).1) e3 hT.room hT.place (by simp)
 | n :: n' :: r,h0,hT =>
  simp only [mH,List.cons.injEq,and_true] at h0
  subst h0
  have hroom:(fZ (n :: n' :: r) fr).2.length≤fr.length:=hT.room
  have hfew:(fZ (n :: n' :: r) fr).2.length≤10000:=hT.few
  have henc:∀ y∈(fZ (n :: n' :: r) fr).2,y.2.encE=0:=hT.enc
  have hll:(fZ (n :: n' :: r) fr).2.length=(aZ (n :: n' :: r) fr).2.length+1:=by simp only [fZ,List.length_append,List.length_singleton]
  exact qSk b Sf fs (n :: n' :: r) (by simp) hT.each m S fa fc fr wv [] w h hm hS hT.len (by omega) hT.place (by simp only [List.length_nil];omega) (henc (_,_) (by simp only [fZ,List.mem_append,List.mem_singleton];exact .inr rfl)) (qPj (by rw [List.length_map,List.length_tail];have:=hT.len;omega) (by rw [List.length_map,dP];exact hT.len) (fun k hk=>by
   obtain⟨q,hq,rfl⟩:=List.mem_map.1 hk
   exact hT.lo q (List.mem_of_mem_tail hq)))
theorem qVg (β:Nat) (sv lv:Value) (fs:Fs) (hl:(fs.life==0)=false) (o:Option (Nat×T)) (root:Nat) (hro:bF fs root o) (hf2:gR o) (ca:Option Addr) (cc:Nat) (cs:List Ch) (S:Bl) (fa:Option Addr) (fc:Nat) (fr:List Nat) (Sf:Bl) (w:World) (hf:aH w β sv lv fs) (hR:aL w S ca (cs.flatMap Ch.cells)) (hS:∀ b,S b→b<w.heap.size) (hr:cI cs) (hn:cs.length≤1000) (hc:cs.length≤cc) (hca:(ca=none∧cc=0)∨∃ b off,ca=some ⟨b,off,none⟩) (hG:tQ fs o cs)
  (hFr:aL w Sf fa (fr.map (fun n:Nat=>Value.int .i64 n))) (hSf:∀ b,Sf b→b<w.heap.size) (hfs:fr≠[]→∃ b0 o0,fa=some ⟨b0,o0,none⟩) (hfc:fr.length≤fc) (hT:qRf fs (cG o cs) fr) :
  Calls Tryz.prog 133 #[.agg #[.pointer (some ⟨β,0,none⟩),.int .i64 (root:Nat),.slice ca cs.length cc],.slice fa fr.length fc] w fun e w'=>∃ wa wc,e=.returned (.agg #[.int .i64 (rootOf (dH o cs fr).1:Nat),.slice wa (dH o cs fr).2.length wc])∧aL w' (New w w') wa (((dH o cs fr).2.map enc1).flatMap dB)∧(dH o cs fr).2.length≤wc∧Below w.heap.size w w':=by
 obtain⟨N,hNd⟩:=nM (cG o cs)
 have HPL:Hid (dH o cs fr=bG N fr):=by show _=_;unfold dH;rw [hNd]
 rw [hNd] at hT
 obtain⟨W1,hW1⟩:=nM (((w.alloc (kK β (root:Nat) ca cs.length cc)).alloc (.cells #[.int .i64 0,.slice none 0 0] 179)).alloc (.cells #[.slice fa fr.length fc,.slice none 0 0] 220))
 have B1:Below w.heap.size w W1:=hW1▸(((Below.refl _ _).alloc (Nat.le_refl _) _).alloc (by simp) _).alloc (by simp;omega) _
 have t1:W1.heap[w.heap.size]?=some (kK β (root:Nat) ca cs.length cc):=hW1▸aF _ (aF _ (aB w _))
 have p1:W1.heap[w.heap.size+1]?=some (.cells #[.int .i64 0,.slice none 0 0] 179):=by
  rw [← hW1];refine aF _ ?_;have:=aB (w.alloc (kK β (root:Nat) ca cs.length cc)) (.cells #[.int .i64 0,.slice none 0 0] 179);simpa using this
 have l1:W1.heap[w.heap.size+1+1]?=some (.cells #[.slice fa fr.length fc,.slice none 0 0] 220):=by
  rw [← hW1];have:=aB ((w.alloc (kK β (root:Nat) ca cs.length cc)).alloc (.cells #[.int .i64 0,.slice none 0 0] 179)) (.cells #[.slice fa fr.length fc,.slice none 0 0] 220);simpa using this
 have z1:W1.heap.size=w.heap.size+3:=by rw [← hW1];simp
 obtain⟨m0,m1,m2⟩:=dM t1
 have hGr:=qTh β sv lv fs hl o root hro hf2 ca cc cs S W1 (hf.on (On.of_below B1 hf.lies)) (hR.on (On.of_below B1 hS)) (fun k hk=>Nat.lt_of_lt_of_le (hS k hk) B1.size) hr hn hc hca hG
 rw [hNd] at hGr
 have hLay1:dV W1 (w.heap.size+1+1) Sf fa fc fr (.slice none 0 0) []:=⟨l1,hFr.on (On.of_below B1 hSf),hfs,hfc,World.ownsRow_nil _ _ _ _,fun k hk=>⟨by have:=hSf k hk;omega,by have:=hSf k hk;omega,by simp [Value.ownBlock]⟩⟩
 have HZ:Hid (W1.heap.size=w.heap.size+3):=z1
 obtain⟨lq0,lq1⟩:=bQ l1
 have lfr:=aJ l1
 have hset:W1.setCell ⟨w.heap.size+1+1,1,none⟩ (.slice none 0 0)=W1:=cJ l1 rfl
 clear hNd hf hR hro z1
 go_enter Tryz.func133,Tryz.ntmps133
 go_wp2_with (go_at_call 146;(with_reducible refine Calls.mono hGr ?_);rintro e X ⟨a,c,ms,rfl,hL⟩)
 have zX:=hL.new.size
 have hLayX:=hLay1.fr hL.new
 have pX:=(hL.new.block _ (by have:=HZ.out;omega)).trans p1
 have HH:Hid (iL W1 X (mH N) a c ms∧dV X (w.heap.size+1+1) Sf fa fc fr (.slice none 0 0) []∧X.heap[w.heap.size+1]?=some (.cells #[.int .i64 0,.slice none 0 0] 179)):=⟨hL,hLayX,pX⟩
 have hlen:=hL.nds.1
 have HFIN:Hid (∀ (wr:World) (fa':Option Addr) (fc':Nat) (fr':List Nat) (wv:Value) (rt:Int),dV wr (w.heap.size+1+1) Sf fa' fc' fr' wv ((bG N fr).2.map enc1)→rt=(rootOf (bG N fr).1:Nat)→Fr (fpL (w.heap.size+1+1) (.slice none 0 0)) X wr→(∀ k,wv.ownBlock=some k→X.heap.size≤k)→wr.heap[w.heap.size+1]?=some (.cells #[.int .i64 0,.slice none 0 0] 179)→Below w.heap.size w wr∧∃ wa wc,wv=.slice wa (bG N fr).2.length wc∧(bG N fr).2.length≤wc∧wr.cell? ⟨w.heap.size+1+1,1,none⟩=some (.slice wa (bG N fr).2.length wc)∧Below w.heap.size w ((wr.setCell ⟨w.heap.size+1,0,none⟩ (.int .i64 rt)).setCell ⟨w.heap.size+1,1,none⟩ (.slice wa (bG N fr).2.length wc))∧((wr.setCell ⟨w.heap.size+1,0,none⟩ (.int .i64 rt)).setCell ⟨w.heap.size+1,1,none⟩ (.slice wa (bG N fr).2.length wc)).heap[w.heap.size+1]?=some (.cells #[.int .i64 rt,.slice wa (bG N fr).2.length wc] 179)∧aL ((wr.setCell ⟨w.heap.size+1,0,none⟩ (.int .i64 rt)).setCell ⟨w.heap.size+1,1,none⟩ (.slice wa (bG N fr).2.length wc)) (New w ((wr.setCell ⟨w.heap.size+1,0,none⟩ (.int .i64 rt)).setCell ⟨w.heap.size+1,1,none⟩ (.slice wa (bG N fr).2.length wc))) wa (((bG N fr).2.map enc1).flatMap dB)):=by
  intro wr fa' fc' fr' wv rt hLa hrt hFx hwv hpl
  have hz:=HZ.out
  have zF:=hFx.size
  have hBw:Below w.heap.size w wr:=(B1.trans (hL.new.mono B1.size)).trans (hFx.below (by omega) (fun k hk=>by rcases hk with hk|hk;omega;simp [Value.ownBlock] at hk))
  have hown:=hLa.own
  rw [List.length_map] at hown
  obtain⟨wa,wc,rfl,hwc,hrow⟩:=cU hown
  have hc1:=(bQ hLa.box).2
  have e1:=aI (aI hpl 0 (.int .i64 rt)) 1 (.slice wa (bG N fr).2.length wc)
  have fP:Fr (Bl.one (w.heap.size+1)) wr ((wr.setCell ⟨w.heap.size+1,0,none⟩ (.int .i64 rt)).setCell ⟨w.heap.size+1,1,none⟩ (.slice wa (bG N fr).2.length wc)):=((Fr.refl (Bl.one (w.heap.size+1)) wr).setCell (p:=⟨w.heap.size+1,0,none⟩) (.inl rfl) _).setCell (p:=⟨w.heap.size+1,1,none⟩) (.inl rfl) _
  refine⟨hBw,wa,wc,rfl,hwc,hc1,hBw.trans (fP.below hBw.size (fun k hk=>by simp only [Bl.one] at hk;omega)),by simpa using e1,?_⟩
  have zP:=fP.size
  refine(hrow.on (fP.on (fun k hk=>⟨bI hown hk,fun e=>by simp only [Bl.one] at e;have:=hwv k hk;omega⟩))).mono (fun k hk=>⟨by have:=hwv k hk;omega,by have:=bI hown hk;omega⟩)
 have pb:=aJ pX
 rcases Nat.lt_or_ge 0 ms.length with h0|h0
 ·-- a root
  obtain⟨tN,htN⟩:∃ t,mH N=[t]:=by
   match N,hlen with
   | [],h=>have:ms.length=0:=h;omega
   | [n],_=>exact⟨_,rfl⟩
   | n :: m :: r,_=>exact⟨_,rfl⟩
  have h01:ms.length=1:=by rw [hlen,htN];rfl
  obtain⟨rb,ro,hra,hrb,n0,n1,n2,n3,n4⟩:=hL.row.nod h0
  subst hra
  obtain⟨m,hm⟩:=nM (ms[0])
  have hnd:iK X (New W1 X) tN m:=hL.nds.2 0 tN m (by rw [htN];rfl) (by rw [List.getElem?_eq_getElem h0,hm])
  rw [hm] at n0 n1 n2 n3 n4
  obtain⟨lo,hi,pl,ea,en,ec,ka,kn,kc⟩:=m
  dsimp only at n0 n1 n2 n3 n4
  simp only [Nat.zero_mul,Nat.add_zero] at n0 n1 n2 n3 n4
  have xE:=aB X (.cells #[.string lo,.string hi,.int .i64 pl,.slice ea en ec,.slice ka kn kc] 224)
  have bE:Below X.heap.size X (X.alloc (.cells #[.string lo,.string hi,.int .i64 pl,.slice ea en ec,.slice ka kn kc] 224)):=(Below.refl _ _).alloc (Nat.le_refl _) _
  obtain⟨X',hX'⟩:∃ X',X.alloc (.cells #[.string lo,.string hi,.int .i64 pl,.slice ea en ec,.slice ka kn kc] 224)=X':=⟨_,rfl⟩
  rw [hX'] at xE bE
  obtain⟨q0,q1,q2,q3,q4⟩:=dC xE
  have hz:=HZ.out
  have hNo:=qIi (w.heap.size+1+1) Sf fs N tN htN ⟨lo,hi,pl,ea,en,ec,ka,kn,kc⟩ (New W1 X) fa fc fr (.slice none 0 0) X' (hLayX.fr bE) (hnd.on (On.of_below bE (fun k hk=>hk.2))) (fun k hk=>⟨by have:=hk.2;have:=bE.size;omega,fun e=>by rcases e with e|e;have:=hk.1;omega;simp [Value.ownBlock] at e⟩) hT
  have HPX:Hid (∀ wr,Fr (fpL (w.heap.size+1+1) (.slice none 0 0)) X' wr→wr.heap[w.heap.size+1]?=some (.cells #[.int .i64 0,.slice none 0 0] 179)∧Fr (fpL (w.heap.size+1+1) (.slice none 0 0)) X wr):=fun wr hfr=>⟨hfr.heap ((bE.block _ (by have:=(Array.getElem?_eq_some_iff.1 pX).1;omega)).trans pX) (fun e=>by rcases e with e|e;omega;simp [Value.ownBlock] at e),(Fr.of_below bE).trans hfr⟩
  rw [h01]
  have zE:=bE.size
  clear hlen h01 h0 hm hnd xE bE hL hLayX pX hz htN
  go_loopw [6,14] (fun r i wq=>(i=.int .i64 0∧r=.int .i64 0∧wq=X)∨(i=.int .i64 1∧∃ fa' fc' fr' wv,r=.int .i64 (rootOf (bG N fr).1:Nat)∧Hid (dV wq (w.heap.size+1+1) Sf fa' fc' fr' wv ((bG N fr).2.map enc1)∧Fr (fpL (w.heap.size+1+1) (.slice none 0 0)) X wq∧(∀ k,wv.ownBlock=some k→X.heap.size≤k)∧wq.heap[w.heap.size+1]?=some (.cells #[.int .i64 0,.slice none 0 0] 179)))) (fun _ i _=>1-(intOf i).toNat)
  case atStart=>exact .inl ⟨rfl,rfl,rfl⟩
  case round =>
   rcases hrel with⟨rfl,rfl,hwr⟩|⟨rfl,fa',fc',fr',wv,rfl,HQ⟩
   ·subst hwr
    go_wp2_with (go_at_call 147;(with_reducible refine Calls.mono hNo ?_);rintro e X2 ⟨rfl,fa2,fc2,wv2,hL2,hF2,hli2⟩)
    obtain⟨hp2,hf2'⟩:=HPX.out X2 hF2
    go_roundw
    case rel=>exact⟨_,_,_,_,_,_,_,_,_,.inr ⟨rfl,fa2,fc2,_,wv2,rfl,hL2,hf2',fun k hk=>(by rcases hli2 k hk with h|h;simp [Value.ownBlock] at h;omega),hp2⟩,rfl⟩
    case measure=>simp [intOf]
   ·obtain⟨rt,hrt⟩:∃ rt:Int,rt=(rootOf (bG N fr).1:Nat):=⟨_,rfl⟩
    rw [← hrt]
    obtain⟨hLa,hFx,hwo,hpl⟩:=HQ.out
    clear n0 n1 n2 n3 n4 hNo q0 q1 q2 q3 q4
    obtain⟨hBw,wa,wc,hwv,hwc,hc1,hBf,hbf,hRf⟩:=HFIN.out wr fa' fc' fr' wv rt hLa hrt hFx hwo hpl
    subst hwv
    obtain⟨q0,q1⟩:=bQ hpl
    have qfr:=aJ hpl
    have HBF:Hid _:=hBf
    have HBX:Hid _:=hbf
    have HRF:Hid _:=hRf
    have HRT:Hid (rt=(rootOf (bG N fr).1:Nat)):=hrt
    have HLE:Hid ((bG N fr).2.length≤wc):=hwc
    clear hBf hbf hRf hrt hwc hLa HFIN
    go_wp2
    refine bodyPost_ret (v:=.agg #[.int .i64 rt,.slice wa (bG N fr).2.length wc]) ?_ rfl ⟨wa,wc,by rw [HPL.out,HRT.out],by rw [HPL.out];exact HRF.out,by rw [HPL.out];exact HLE.out,HBF.out⟩
    exact results_cell_row (p:=4) rfl _ _ (w.heap.size+1) _ _ _ _ rfl HBX.out Tryz.underlying179 rfl (by kernel_rfl)
 ·-- nothing
  have h00:ms.length=0:=by omega
  have hN0:N=[]:=by
   match N,hlen with
   | [],_=>rfl
   | [n],h=>have:ms.length=1:=h;omega
   | n :: m :: r,h=>have:ms.length=1:=h;omega
  rw [h00]
  have HRZ:Hid ((rootOf (bG N fr).1:Nat)=0∧(bG N fr).2=[]):=by rw [hN0];exact⟨rfl,rfl⟩
  have HLX:Hid (dV X (w.heap.size+1+1) Sf fa fc fr (.slice none 0 0) ((bG N fr).2.map enc1)):=by rw [HRZ.out.2];exact hLayX
  clear hlen h00 h0 hL hLayX hN0
  go_loopw [6,14] (fun r i wq=>i=.int .i64 0∧r=.int .i64 0∧wq=X) (fun _ _ _=>0)
  case atStart=>exact⟨rfl,rfl,rfl⟩
  case round =>
   obtain⟨rfl,rfl,hwr⟩:=hrel
   subst hwr
   obtain⟨hBw,wa,wc,hwv,hwc,hc1,hBf,hbf,hRf⟩:=HFIN.out wr fa fc fr (.slice none 0 0) 0 HLX.out (by rw [HRZ.out.1];rfl) (Fr.refl _ _) (fun k hk=>by simp [Value.ownBlock] at hk) pX
   obtain⟨q0,q1⟩:=bQ pX
   have qfr:=aJ pX
   have HBF:Hid _:=hBf
   have HBX:Hid _:=hbf
   have HRF:Hid _:=hRf
   have HLE:Hid ((bG N fr).2.length≤wc):=hwc
   clear hBf hbf hRf hwc HFIN hwv
   go_wp2
   refine bodyPost_ret (v:=.agg #[.int .i64 0,.slice wa (bG N fr).2.length wc]) ?_ rfl ⟨wa,wc,by rw [HPL.out,HRZ.out.1];rfl,by rw [HPL.out];exact HRF.out,by rw [HPL.out];exact HLE.out,HBF.out⟩
   exact results_cell_row (p:=4) rfl _ _ (w.heap.size+1) _ _ _ _ rfl HBX.out Tryz.underlying179 rfl (by kernel_rfl)
abbrev gE (rt:Int) (v:Value):Obj:=.cells #[.int .i64 rt,v] 179
abbrev qAq (ver rt:Int):Obj:=.cells #[.int .i64 1,.int .i64 ver,.int .i64 rt,.int .i64 0,.slice none 0 0,.slice none 0 0,.slice none 0 0,.string ⟨#[]⟩] 85
abbrev fS:Obj:=.cells #[.int .i64 0,.int .i64 0,.int .i64 0,.int .i64 0,.slice none 0 0,.slice none 0 0,.slice none 0 0,.string ⟨#[]⟩] 85
abbrev frD (D:Db) (o ao:Option (Nat×T)) (ot:Tx→Option (Nat×T)):List Nat:=iU D.fs.safe.length (eY ([o,ao]++D.ts.map ot))
abbrev qUv (w:World) (b:Nat) (v0 v1 v2 v3 v4 v5 v6 v7:Value):World:=(((((((w.setCell ⟨b,0,none⟩ v0).setCell ⟨b,1,none⟩ v1).setCell ⟨b,2,none⟩ v2).setCell ⟨b,3,none⟩ v3).setCell ⟨b,4,none⟩ v4).setCell ⟨b,5,none⟩ v5).setCell ⟨b,6,none⟩ v6).setCell ⟨b,7,none⟩ v7
theorem qUu (w:World) (b:Nat) (v0 v1 v2 v3 v4 v5 v6 v7:Value):Fr (Bl.one b) w (qUv w b v0 v1 v2 v3 v4 v5 v6 v7) :=
  ((((((((Fr.refl (Bl.one b) w).setCell (p:=⟨b,0,none⟩) (.inl rfl) _).setCell (p:=⟨b,1,none⟩) (.inl rfl) _).setCell (p:=⟨b,2,none⟩) (.inl rfl) _).setCell (p:=⟨b,3,none⟩) (.inl rfl) _).setCell (p:=⟨b,4,none⟩) (.inl rfl) _).setCell (p:=⟨b,5,none⟩) (.inl rfl) _).setCell (p:=⟨b,6,none⟩) (.inl rfl) _).setCell (p:=⟨b,7,none⟩) (.inl rfl) _
theorem qRr {b:Nat} {x0 x1 x2 x3 x4 x5 x6 x7:Value} {t:TypeId} (h:w.heap[b]?=some (.cells #[x0,x1,x2,x3,x4,x5,x6,x7] t)) (v0 v1 v2 v3 v4 v5 v6 v7:Value):(qUv w b v0 v1 v2 v3 v4 v5 v6 v7).heap[b]?=some (.cells #[v0,v1,v2,v3,v4,v5,v6,v7] t):=by
  have:=aI (aI (aI (aI (aI (aI (aI (aI h 0 v0) 1 v1) 2 v2) 3 v3) 4 v4) 5 v5) 6 v6) 7 v7
  simpa using this
theorem qAj {P:Program} {fn:Func} {p q:Tmp} {ty ty':TypeId} (h:fn.results=#[.cell p ty,.cell q ty']) (tmps:Array Value) (w:World) (g g':Nat) (t t':TypeId) (cs cs':Array Value) (d d':TypeDesc)
    (hp:tmps.getD p undef=.pointer (some ⟨g,0,none⟩)) (hq:tmps.getD q undef=.pointer (some ⟨g',0,none⟩)) (hg:w.heap[g]?=some (.cells cs t)) (hg':w.heap[g']?=some (.cells cs' t'))
    (hu:P.underlying ty=some d) (hd:(match d with|.struct _|.array _ _=>true|_=>false)=true) (hi:(P.info? ty).map (·.size)=some cs.size) (hu':P.underlying ty'=some d') (hd':(match d' with|.struct _|.array _ _=>true|_=>false)=true) (hi':(P.info? ty').map (·.size)=some cs'.size) :
    (results fn tmps).run P w=.ok (.tuple #[.agg cs,.agg cs']) w:=by
  have hp':tmps[p]?.getD undef=.pointer (some ⟨g,0,none⟩):=by simpa using hp
  have hq':tmps[q]?.getD undef=.pointer (some ⟨g',0,none⟩):=by simpa using hq
  simp [results,h,hp',hq',asAddr,run_loadVar_row w g t ty cs (0,0) d hg hu hd hi,run_loadVar_row w g' t' ty' cs' (0,0) d' hg' hu' hd' hi']
theorem qTs (D:Db) (st:Int) (v:Nat) (o ao:Option (Nat×T)) (ot:Tx→Option (Nat×T)) (ca:Option Addr) (cc:Nat) (cs:List Ch) (S:Bl) (w:World) (h:aS w st D) (hv:D.ver=v) (hv63:v+1<9223372036854775808) (hn:D.ts.length≤1000) (hl:(D.fs.life==0)=false) (hp2:1<D.fs.safe.length) (hm:dR D.fs (v % 2) v D.root)
    (ho:bF D.fs (rootOf o) o) (hr:D.root=rootOf o) (hf2:gR o) (hao:bF D.fs (rootOf ao) ao) (har:D.aroot=rootOf ao) (hts:∀ t∈D.ts,bF D.fs (rootOf (ot t)) (ot t)∧t.root=rootOf (ot t))
    (hR:aL w S ca (cs.flatMap Ch.cells)) (hS:∀ b,S b→b<w.heap.size) (hri:cI cs) (hcn:cs.length≤1000) (hc:cs.length≤cc) (hca:(ca=none∧cc=0)∨∃ b off,ca=some ⟨b,off,none⟩) (hG:tQ D.fs o cs) (hT:qRf D.fs (cG o cs) (frD D o ao ot)) :
    Calls Tryz.prog 107 #[.pointer (some ⟨D.d,0,none⟩),.slice ca cs.length cc] w fun e w'=>∃ wa wc,e=.returned (.tuple #[.agg #[.int .i64 (rootOf (dH o cs (frD D o ao ot)).1:Nat),.slice wa (dH o cs (frD D o ao ot)).2.length wc],.agg #[.int .i64 1,.int .i64 (v+1:Nat),.int .i64 (rootOf (dH o cs (frD D o ao ot)).1:Nat),.int .i64 0,.slice none 0 0,.slice none 0 0,.slice none 0 0,.string ⟨#[]⟩]])∧aL w' (New w w') wa (((dH o cs (frD D o ao ot)).2.map enc1).flatMap dB)∧(dH o cs (frD D o ao ot)).2.length≤wc∧Below w.heap.size w w':=by
  obtain⟨fr,hfr⟩:=nM (frD D o ao ot)
  rw [hfr] at hT ⊢
  obtain⟨rt,hrt⟩:=nM (rootOf (dH o cs fr).1)
  obtain⟨l,hll⟩:=nM ((dH o cs fr).2)
  rw [hrt,hll]
  obtain⟨W1,hW1⟩:=nM ((w.alloc (gE 0 (.slice none 0 0))).alloc fS)
  have B1:Below w.heap.size w W1:=hW1▸((Below.refl _ _).alloc (Nat.le_refl _) _).alloc (by simp) _
  have p1:W1.heap[w.heap.size]?=some (gE 0 (.slice none 0 0)):=hW1▸aF _ (aB w _)
  have g1:W1.heap[w.heap.size+1]?=some fS:=by
    rw [← hW1];have:=aB (w.alloc (gE 0 (.slice none 0 0))) fS;simpa using this
  have z1:W1.heap.size=w.heap.size+2:=by rw [← hW1];simp
  have HK:Hid (∀ X,Below W1.heap.size W1 X→aS X st D∧X.cell? ⟨D.d,2,none⟩=some (.pointer (some ⟨D.β,0,none⟩))∧X.cell? ⟨D.d,4,none⟩=some (.int .i64 (v:Nat))∧X.cell? ⟨D.d,5,none⟩=some (.int .i64 D.root)∧X.heap[w.heap.size]?=some (gE 0 (.slice none 0 0))∧X.heap[w.heap.size+1]?=some fS∧Below w.heap.size w X):=by
    intro X hX
    have hb:=B1.trans (hX.mono B1.size)
    have h1:=h.on (On.of_below hb h.lies)
    obtain⟨c0,c1,c2,c3,c4,c5,c6,c7,c8,c9,c10,c11,c12,c13,c14⟩:=eS h1.box
    rw [hv] at c4
    exact⟨h1,c2,c4,c5,(hX.block _ (by omega)).trans p1,(hX.block _ (by omega)).trans g1,hb⟩
  have hCM:=qDi D st v W1 (HK.out W1 (Below.refl _ _)).1 hv hl hp2 hm
  have HTA:Hid (∀ X,Below W1.heap.size W1 X→Calls Tryz.prog 39 #[.pointer (some ⟨D.d,0,none⟩),.int .i64 D.root] X fun e w'=>e=.returned (.agg #[.pointer (some ⟨D.β,0,none⟩),.int .i64 D.root,.slice none 0 0])∧Below X.heap.size X w'):=fun X hX=>lF D.d D.β D.root X (HK.out X hX).2.1
  have HFe:Hid (∀ X,Below W1.heap.size W1 X→Calls Tryz.prog 134 #[.pointer (some ⟨D.d,0,none⟩)] X fun e w'=>∃ vf,e=.returned vf∧w'.ownsRow 0 3 1 vf fr.length (fr.map (fun n:Nat=>Value.int .i64 n))∧Below X.heap.size X w'):=fun X hX=>by
    have:=qWu D st o ao ot X (HK.out X hX).1 (by omega) hl ho hr hao har hts
    rw [show iU D.fs.safe.length (eY ([o,ao]++D.ts.map ot))=fr from hfr] at this
    exact this
  have HPl:Hid (∀ X fa fc,Below W1.heap.size W1 X→X.ownsRow 0 3 1 (.slice fa fr.length fc) fr.length (fr.map (fun n:Nat=>Value.int .i64 n))→Calls Tryz.prog 133 #[.agg #[.pointer (some ⟨D.β,0,none⟩),.int .i64 D.root,.slice ca cs.length cc],.slice fa fr.length fc] X fun e w'=>∃ wa wc,e=.returned (.agg #[.int .i64 (rt:Nat),.slice wa l.length wc])∧aL w' (New X w') wa ((l.map enc1).flatMap dB)∧l.length≤wc∧Below X.heap.size X w'):=fun X fa fc hX hof=>by
    obtain⟨hD,_,_,_,_,_,hb⟩:=HK.out X hX
    obtain⟨fa',fc',he,hfc,hrow⟩:=cU hof
    simp only [Value.slice.injEq,true_and] at he
    obtain⟨e1,e2⟩:=he
    subst e1 e2
    have:=qVg D.β D.sv D.lv D.fs hl o D.root (hr▸ho) hf2 ca cc cs S fa fc fr _ X hD.file (hR.on (On.of_below hb hS)) (fun k hk=>Nat.lt_of_lt_of_le (hS k hk) hb.size) hri hcn hc hca hG hrow (fun k hk=>bI hof hk) (fun hne=>by
      rcases iP hof with⟨_,h2,_⟩|⟨g,c,cur,h3,_⟩
      · exact absurd (List.eq_nil_of_length_eq_zero h2) hne
      · simp only [Value.slice.injEq] at h3;exact⟨g,0,h3.1⟩) hfc hT
    rw [hrt,hll] at this
    exact this
  have HZ:Hid (W1.heap.size=w.heap.size+2):=z1
  have HD:Hid (D.d<w.heap.size):=(Array.getElem?_eq_some_iff.1 h.box).1
  have hadd:IntKind.i64.wrap ((v:Int)+1)=(v:Int)+1:=by rw [IntKind.wrap_i64];omega
  clear h hm ho hao hts hR hG hT hfr hrt hll z1 hv hr har
  go_enter Tryz.func107,Tryz.ntmps107
  go_wp2_with (first
    | (go_at_call 132;(with_reducible refine Calls.mono hCM ?_);rintro e X1 ⟨rfl,hX1⟩;obtain⟨_,k2,k4,k5,_⟩:=HK.out X1 hX1;have hTA:=HTA.out X1 hX1)
    | (go_at_call 39;(with_reducible refine Calls.mono hTA ?_);rintro e X2 ⟨rfl,hX2⟩;have B2:=hX1.trans (hX2.mono hX1.size)))
  obtain⟨X3,hX3⟩:=nM (X2.alloc (kK D.β D.root ca cs.length cc))
  rw [hX3]
  have t3:X3.heap[X2.heap.size]?=some (kK D.β D.root ca cs.length cc):=hX3▸aB X2 _
  have z12:=B2.size
  have B3:Below W1.heap.size W1 X3:=hX3▸B2.alloc z12 _
  have z13:=B3.size
  have HS:Hid (∀ X,Below X3.heap.size X3 X→X.cell? ⟨X2.heap.size,0,none⟩=some (.pointer (some ⟨D.β,0,none⟩))∧X.cell? ⟨X2.heap.size,1,none⟩=some (.int .i64 D.root)∧X.cell? ⟨X2.heap.size,2,none⟩=some (.slice ca cs.length cc)):=fun X hX=>dM ((hX.block _ (Array.getElem?_eq_some_iff.1 t3).1).trans t3)
  have B30:Below X3.heap.size X3 X3:=Below.refl _ _
  clear hX3 hCM hTA k2 k4 k5
  go_region_held3 (fun X=>X.cell? ⟨X2.heap.size,0,none⟩=some (.pointer (some ⟨D.β,0,none⟩))∧X.cell? ⟨X2.heap.size,1,none⟩=some (.int .i64 D.root)∧X.cell? ⟨X2.heap.size,2,none⟩=some (.slice ca cs.length cc))
    ((refine HS.out _ ?_;(repeat (first|exact BP|exact BF|exact B30|(refine Below.drew ?_)|(refine Below.alloc ?_ (by first|omega|(simp;omega)) _)|(refine Below.setCell ?_ (by first|omega|(simp;omega)|(show X3.heap.size≤X5.heap.size;omega)|(show X3.heap.size≤X6.heap.size;omega)|exact Nat.le_refl _) _)))))
    (first
      | (go_at_call 134;(with_reducible refine Calls.mono (HFe.out _ ?_) ?_);exact(B3.alloc z13 _).drew;rintro e X5 ⟨vf,rfl,hof,hX5⟩;obtain⟨fa,fc,rfl⟩:=aT hof;have BF:Below X3.heap.size X3 X5:=(B30.alloc (Nat.le_refl _) _).drew.trans (hX5.mono (by simp));have zF:=BF.size;have xA:X5.heap[X3.heap.size]?=some (gE 0 (.slice none 0 0)):=(hX5.block X3.heap.size (by simp)).trans (aB X3 (gE 0 (.slice none 0 0)));have lA:=(Array.getElem?_eq_some_iff.1 xA).1)
      | (go_at_call 134;(with_reducible refine Calls.mono (HFe.out _ ?_) ?_);exact B3.drew;rintro e X5 ⟨vf,rfl,hof,hX5⟩;obtain⟨fa,fc,rfl⟩:=aT hof;have BF:Below X3.heap.size X3 X5:=B30.drew.trans hX5;have zF:=BF.size)
      | (go_at_call 133;(with_reducible refine Calls.mono (HPl.out _ fa fc ?_ ?_) ?_);exact B3.trans (BF.mono z13);exact hof;rintro e X6 ⟨wa,wc,rfl,hRw,hwc,hX6⟩;have BP:Below X3.heap.size X3 X6:=BF.trans (hX6.mono zF);have zP:=BP.size;have xB:X6.heap[X3.heap.size]?=some (gE 0 (.slice none 0 0)):=(hX6.block X3.heap.size lA).trans xA;obtain⟨g0,g1⟩:=bQ xB;have gfr:=aJ xB)
      | (go_at_call 133;(with_reducible refine Calls.mono (HPl.out _ fa fc ?_ ?_) ?_);exact(B3.trans (BF.mono z13)).alloc (by omega) _;exact World.ownsRow.alloc (w:=X5) hof _;rintro e X6 ⟨wa,wc,rfl,hRw,hwc,hX6⟩;have BP:Below X3.heap.size X3 X6:=(BF.alloc zF _).trans (hX6.mono (by simp;omega));have zP:=BP.size;have xB:X6.heap[X5.heap.size]?=some (gE 0 (.slice none 0 0)):=(hX6.block X5.heap.size (by simp)).trans (aB X5 (gE 0 (.slice none 0 0)));obtain⟨g0,g1⟩:=bQ xB;have gfr:=aJ xB)
      | (go_at_call 133;(with_reducible refine Calls.mono (HPl.out _ fa fc ?_ ?_) ?_);exact B3.trans (BF.mono z13);exact hof;rintro e X6 ⟨wa,wc,rfl,hRw,hwc,hX6⟩;have BP:Below X3.heap.size X3 X6:=BF.trans (hX6.mono zF);have zP:=BP.size;have xE:=aB X6 (gE 0 (.slice none 0 0));obtain⟨g0,g1⟩:=bQ xE;have gfr:=aJ xE))
  all_goals
    have zz:=HZ.out
    first
      | (obtain⟨Xf,hXf⟩:=nM (X6.alloc (gE (rt:Nat) (.slice wa l.length wc)))
         rw [hXf]
         have BFf:Below X3.heap.size X3 Xf:=hXf▸BP.alloc zP _
         have b7:Xf.heap[X6.heap.size]?=some (gE (rt:Nat) (.slice wa l.length wc)):=by rw [← hXf];exact aB X6 _
         have HRF:Hid (aL Xf (fun k=>X3.heap.size≤k∧k<Xf.heap.size) wa ((l.map enc1).flatMap dB)):=by show aL _ _ _ _;rw [← hXf];exact(hRw.on ((On.refl _ X6).alloc (fun k hk=>hk.2) _)).mono (fun k hk=>⟨by have:=hk.1;omega,by have:=hk.2;simp;omega⟩)
         obtain⟨B7,hB7⟩:=nM (X6.heap.size)
         have zB7:X3.heap.size≤B7:=by omega
         rw [hB7] at b7 ⊢
         clear hXf hB7)
      | (obtain⟨Xf,hXf⟩:=nM ((X6.setCell ⟨X5.heap.size,0,none⟩ (.int .i64 (rt:Nat))).setCell ⟨X5.heap.size,1,none⟩ (.slice wa l.length wc))
         rw [hXf]
         have BFf:Below X3.heap.size X3 Xf:=hXf▸(BP.setCell (p:=⟨X5.heap.size,0,none⟩) zF _).setCell (p:=⟨X5.heap.size,1,none⟩) zF _
         have b7:Xf.heap[X5.heap.size]?=some (gE (rt:Nat) (.slice wa l.length wc)):=by rw [← hXf];have:=aI (aI xB 0 (.int .i64 (rt:Nat))) 1 (.slice wa l.length wc);simpa using this
         have HRF:Hid (aL Xf (fun k=>X3.heap.size≤k∧k<Xf.heap.size) wa ((l.map enc1).flatMap dB)):=by show aL _ _ _ _;rw [← hXf];exact(hRw.on (((On.refl _ X6).setCell (p:=⟨X5.heap.size,0,none⟩) (fun hk=>by have h1:(X5.alloc (gE 0 (.slice none 0 0))).heap.size≤X5.heap.size:=hk.1;rw [World.size_alloc] at h1;omega) _).setCell (p:=⟨X5.heap.size,1,none⟩) (fun hk=>by have h1:(X5.alloc (gE 0 (.slice none 0 0))).heap.size≤X5.heap.size:=hk.1;rw [World.size_alloc] at h1;omega) _)).mono (fun k hk=>⟨by have h1:(X5.alloc (gE 0 (.slice none 0 0))).heap.size≤k:=hk.1;rw [World.size_alloc] at h1;omega,by have:=hk.2;simp;omega⟩)
         obtain⟨B7,hB7⟩:=nM (X5.heap.size)
         have zB7:X3.heap.size≤B7:=by omega
         rw [hB7] at b7 ⊢
         clear hXf hB7)
      | (obtain⟨Xf,hXf⟩:=nM ((X6.setCell ⟨X3.heap.size,0,none⟩ (.int .i64 (rt:Nat))).setCell ⟨X3.heap.size,1,none⟩ (.slice wa l.length wc))
         rw [hXf]
         have BFf:Below X3.heap.size X3 Xf:=hXf▸(BP.setCell (p:=⟨X3.heap.size,0,none⟩) (Nat.le_refl _) _).setCell (p:=⟨X3.heap.size,1,none⟩) (Nat.le_refl _) _
         have b7:Xf.heap[X3.heap.size]?=some (gE (rt:Nat) (.slice wa l.length wc)):=by rw [← hXf];have:=aI (aI xB 0 (.int .i64 (rt:Nat))) 1 (.slice wa l.length wc);simpa using this
         have HRF:Hid (aL Xf (fun k=>X3.heap.size≤k∧k<Xf.heap.size) wa ((l.map enc1).flatMap dB)):=by show aL _ _ _ _;rw [← hXf];exact(hRw.on (((On.refl _ X6).setCell (p:=⟨X3.heap.size,0,none⟩) (fun hk=>by have h1:X5.heap.size≤X3.heap.size:=hk.1;omega) _).setCell (p:=⟨X3.heap.size,1,none⟩) (fun hk=>by have h1:X5.heap.size≤X3.heap.size:=hk.1;omega) _)).mono (fun k hk=>⟨by have h1:=hk.1;omega,by have:=hk.2;simp;omega⟩)
         obtain⟨B7,hB7⟩:=nM (X3.heap.size)
         have zB7:X3.heap.size≤B7:=by omega
         rw [hB7] at b7 ⊢
         clear hXf hB7)
    clear g0 g1 gfr hRw hX6 hof hX5
    have BW:Below W1.heap.size W1 Xf:=B3.trans (BFf.mono z13)
    obtain⟨_,k2,k4,k5,pP,pG,hBw⟩:=HK.out Xf BW
    have dlt:D.d<w.heap.size:=HD.out
    obtain⟨g0,g1⟩:=bQ b7
    obtain⟨q0,q1⟩:=bQ pP
    have qfr:=aJ pP
    obtain⟨r0,r1,r2,r3,r4,r5,r6,r7⟩:=bH pG
    have rfr:=aJ pG
    go_wp2
    go_region_held3 (fun X=>X.cell? ⟨B7,0,none⟩=some (.int .i64 (rt:Nat))∧X.cell? ⟨B7,1,none⟩=some (.slice wa l.length wc)∧X.cell? ⟨D.d,4,none⟩=some (.int .i64 (v:Nat)))
      ((first|(with_reducible exact⟨g0,g1,k4⟩)|(refine⟨?_,?_,?_⟩<;>(try rw [rR])<;>(repeat (with_reducible refine bV (by omega) ?_))<;>(first|(with_reducible exact g0)|(with_reducible exact g1)|(with_reducible exact k4)))|(simp [g0,g1,k4])))
      (fail)
    obtain⟨Xh,hXh⟩:=nM ((Xf.setCell ⟨w.heap.size,0,none⟩ (.int .i64 (rt:Nat))).setCell ⟨w.heap.size,1,none⟩ (.slice wa l.length wc))
    have fh:Fr (Bl.one w.heap.size) Xf Xh:=hXh▸(((Fr.refl (Bl.one w.heap.size) Xf).setCell (p:=⟨w.heap.size,0,none⟩) (.inl rfl) _).setCell (p:=⟨w.heap.size,1,none⟩) (.inl rfl) _)
    have bh:Xh.heap[w.heap.size]?=some (gE (rt:Nat) (.slice wa l.length wc)):=by rw [← hXh];have:=aI (aI pP 0 (.int .i64 (rt:Nat))) 1 (.slice wa l.length wc);simpa using this
    have gh:=fh.heap pG (oN (by omega))
    obtain⟨Xg,hXg⟩:=nM ((qUv Xh (w.heap.size+1) (.int .i64 1) (.int .i64 ((v:Int)+1)) (.int .i64 (rt:Nat)) (.int .i64 0) (.slice none 0 0) (.slice none 0 0) (.slice none 0 0) (.string ⟨#[]⟩)).drew)
    have fg:Fr (Bl.one (w.heap.size+1)) Xh Xg:=hXg▸(qUu Xh (w.heap.size+1) _ _ _ _ _ _ _ _).drew
    have bg:Xg.heap[w.heap.size]?=some (gE (rt:Nat) (.slice wa l.length wc)):=fg.heap bh (oN (by omega))
    have gg:Xg.heap[w.heap.size+1]?=some (qAq ((v:Int)+1) (rt:Nat)):=by rw [← hXg,heap_drew];exact qRr gh _ _ _ _ _ _ _ _
    rw [hXh,hXg]
    have zg:=fg.size
    have zh:=fh.size
    have HBG:Hid (Below w.heap.size w Xg):=(hBw.trans (fh.below hBw.size (fun k hk=>by simp only [Bl.one] at hk;omega))).trans (fg.below (by have:=hBw.size;omega) (fun k hk=>by simp only [Bl.one] at hk;omega))
    have HRG:Hid (aL Xg (New w Xg) wa ((l.map enc1).flatMap dB)):=by
      have hRf':aL Xf (fun k=>X3.heap.size≤k∧k<Xf.heap.size) wa ((l.map enc1).flatMap dB):=HRF.out
      refine((hRf'.on (fh.on (fun k hk=>⟨hk.2,fun e=>by simp only [Bl.one] at e;have:=hk.1;omega⟩))).on (fg.on (fun k hk=>⟨by have:=hk.2;omega,fun e=>by simp only [Bl.one] at e;have:=hk.1;omega⟩))).mono (fun k hk=>⟨by have:=hk.1;omega,by have:=hk.2;omega⟩)
    clear hXh hXg bh gh fh fg g0 g1 q0 q1 qfr r0 r1 r2 r3 r4 r5 r6 r7 rfr pP pG
    go_wp2
    refine bodyPost_ret (v:=.tuple #[.agg #[.int .i64 (rt:Nat),.slice wa l.length wc],.agg #[.int .i64 1,.int .i64 (v+1:Nat),.int .i64 (rt:Nat),.int .i64 0,.slice none 0 0,.slice none 0 0,.slice none 0 0,.string ⟨#[]⟩]]) ?_ rfl ⟨wa,wc,rfl,HRG.out,hwc,HBG.out⟩
    exact qAj (p:=4) (q:=5) rfl _ _ w.heap.size (w.heap.size+1) _ _ _ _ _ _ rfl rfl bg gg Tryz.underlying179 rfl (by kernel_rfl) Tryz.underlying85 rfl (by kernel_rfl)
theorem qCm {ns:List NT} (h:Lst fs ns) (hk:∀ m∈ns,∀ t sp,m=.kept t sp→0<t.place):∀ j,j≤ns.length→Lst fs (jM ns j++ns.drop j)∧cP (jM ns j++ns.drop j)=cP ns∧∀ m∈jM ns j++ns.drop j,∀ t sp,m=.kept t sp→0<t.place
 | 0,_=>by
  have e:jM ns 0++ns.drop 0=ns:=by simp [jM]
  rw [e];exact⟨h,rfl,hk⟩
 | j+1,hj=>by
  obtain⟨h1,h2,h3⟩:=qCm h hk j (by omega)
  have hlt:j<ns.length:=by omega
  rw [List.drop_eq_getElem_cons hlt] at h1 h2 h3
  obtain⟨g1,g2⟩:=nV h1
  have e:jM ns (j+1)=gF eB (jM ns j) ns[j]:=by rw [jM,xQ _ _ _ _ hlt]
  rw [e]
  exact⟨g1,g2.trans h2,qBp (Q:=fun t=>0<t.place) h1 h3⟩
theorem qCa (h:3+tot (fun k:ByteArray=>k.size+3) K≤250):K.length≤82:=by
 have key:∀ (l:List ByteArray),3 * l.length≤tot (fun k:ByteArray=>k.size+3) l:=by
  intro l
  induction l with
  | nil=>simp [tot]
  | cons x l ih =>
   simp only [tot,List.map_cons,List.sum_cons,List.length_cons] at ih ⊢
   omega
 have:=key K
 omega
theorem qVp {es:List En}  (he:cM es) (hr:cI cs) (hc:∀ c∈cs,c.key∈K) (hK:∀ x∈es,x.e.key∈K):(bK es cs).length≤K.length:=by
 have h1:=iQ he hr
 have:=uQ (l:=(bK es cs).map (fun x=>x.e.key)) (m:=K) (lN (by rw [List.pairwise_map];exact h1)) (fun x hx=>by
  obtain⟨y,hy,rfl⟩:=List.mem_map.1 hx
  rcases (dI he hr y).1 hy with⟨c,h1,_,rfl⟩|⟨h1,_⟩
  ·exact hc c h1
  ·exact hK y h1)
 rwa [List.length_map] at this
theorem qQv {ns:List NT} {n:NT} (h:n∈ns):n.ents0.length≤(cP ns).length:=by
 induction ns with
 | nil=>simp at h
 | cons m ns ih =>
  simp only [cP,List.flatMap_cons,List.length_append]
  rcases List.mem_cons.1 h with rfl|h
  ·omega
  ·have:=ih h
   simp only [cP] at this
   omega
theorem qZe {o:Option (Nat×T)}  {fr:List Nat} (P:wM K n fs o cs fr):tQ fs o cs:=by
 obtain⟨h1,h1'⟩:=lW P.tree.rooted P.tree.flat P.rise P.good
 have h2:=mO P.tree.rooted P.tree.flat P.rise P.good P.keys P.tree.keys
 have h4:=h1.many h2
 have h5:=h1.count
 have h6:=qCa P.ksum
 have hs:=h1.size h2
 have hks:=P.ksum
 refine⟨fun m hm=>?_,by omega,by omega,P.good,by rw [← h1'];omega,?_⟩
 ·rcases (h2 m hm).1 with h|h
  ·rw [h];decide
  ·exact P.k24 _ h
 ·rintro p ks kids rfl
  have hst:aX fs 1 (.branch p ks kids) ⟨⟨#[]⟩,⟨#[]⟩⟩:=P.tree.rooted.2.2
  have hge:=kY P.tree.rooted P.tree.flat P.tree.root
  have htK:TIn K 1 (.branch p ks kids):=P.tree.keys
  obtain⟨hl,hp,hb,_,hall⟩:=fC hst
  have hmem:∀ x∈parts ⟨⟨#[]⟩,⟨#[]⟩⟩ ks kids,x.1∈kids:=fun x hx=>by
   have:x.1∈(parts ⟨⟨#[]⟩,⟨#[]⟩⟩ ks kids).map (·.1):=List.mem_map.2 ⟨x,hx,rfl⟩
   rwa [gJ] at this
  have hplace:∀ x∈parts ⟨⟨#[]⟩,⟨#[]⟩⟩ ks kids,0<x.1.place:=fun x hx=>by
   have hs:=hall x hx
   obtain⟨t,s⟩:=x
   cases t with
   | branch=>exact hs.elim
   | leaf q es =>
    have:=hge q (by
     simp only [bJ,T.pages,List.mem_cons,List.mem_flatMap]
     exact .inr ⟨_,hmem _ hx,by simp [T.pages]⟩)
    show 0<q
    omega
  have hpp:=jQ _ ks kids hl hp hb
  have hk:=fun x hx=>yT (x:=x.2) (t:=x.1) (hall x hx) P.rise P.good
  obtain⟨f1,f2⟩:=qP (fun x=>eT x cs) (parts ⟨⟨#[]⟩,⟨#[]⟩⟩ ks kids) (fun x hx=>(hk x hx).1) hpp
  have hkept:∀ m∈(parts ⟨⟨#[]⟩,⟨#[]⟩⟩ ks kids).flatMap (fun x=>eT x cs),∀ t sp,m=.kept t sp→0<t.place:=by
   intro m hm t sp e
   obtain⟨x,hx,hm⟩:=List.mem_flatMap.1 hm
   have hpx:=hplace x hx
   obtain⟨t',s⟩:=x
   have hs:=hall _ hx
   cases t' with
   | branch=>exact hs.elim
   | leaf q es =>
    simp only [eT] at hm
    split at hm
    ·rw [List.mem_singleton] at hm
     rw [hm] at e
     cases e
     exact hpx
    ·exact mP (Q:=fun t=>0<t.place) m hm t sp e
  obtain⟨j1,j2⟩:=qFk f1
  have hN:kD eB ((parts ⟨⟨#[]⟩,⟨#[]⟩⟩ ks kids).flatMap (fun x=>eT x cs))=cG (some (1,.branch p ks kids)) cs:=rfl
  rw [hN] at j1 j2
  have hent:(cP ((parts ⟨⟨#[]⟩,⟨#[]⟩⟩ ks kids).flatMap (fun x=>eT x cs))).length≤82:=by rw [← j2];omega
  refine⟨hplace,fun x hx q es e=>?_,⟨fun j hj m hm=>?_,fun j hj=>?_,?_,fun m hm=>?_,?_⟩⟩
  ·have hs:=hall x hx
   rw [e] at hs
   have htx:=htK.2 x.1 (hmem x hx)
   rw [e] at htx
   have:=qVp (K:=K) (es:=es) (cs:=eF cs x.2) (dF (h:=0) hs) (iD P.rise x.2) (fun c hc=>P.keys c (jF.1 hc).1) htx
   omega
  ·obtain⟨a1,a2,a3⟩:=qCm f1 hkept j hj
   have:=qQv hm
   rw [a2] at this
   exact⟨a1.ok m hm,fun t s e=>a3 m hm t s e,by omega⟩
  ·obtain⟨a1,a2,a3⟩:=qCm f1 hkept j hj
   have:=a1.count
   rw [a2,List.length_append] at this
   omega
  ·have:=f1.count
   omega
  ·rw [hN] at hm
   rcases (h2 m hm).1 with h|h
   ·rw [h];decide
   ·exact P.k24 _ h
  ·rw [hN];omega
theorem vAe {o:Option (Nat×T)}  {fr:List Nat} (P:wM K n fs o cs fr):qRf fs (cG o cs) fr:=by
 obtain⟨h1,h1'⟩:=lW P.tree.rooted P.tree.flat P.rise P.good
 have h2:=mO P.tree.rooted P.tree.flat P.rise P.good P.keys P.tree.keys
 obtain⟨h3,h4⟩:=xK P.tree.rooted P.tree.flat P.rise P.good
 have hm:=h1.many h2
 have hc:=h1.count
 have h6:=qCa P.ksum
 have hen:=P.enough
 have hroom:=P.room
 have hp:=P.place
 unfold dH at hen
 have hl:(bG (cG o cs) fr).2.length≤fr.length:=Nat.le_trans hen P.room
 have hge:=kY P.tree.rooted P.tree.flat P.tree.root
 obtain⟨k1,_⟩:=qEy h1 h2 P.k24 P.ksum h4 fr hl hp fr (fun m hm p hpp=>P.away p ((h3 m hm).1 p hpp))
 refine⟨fun m hm'=>⟨h1.ok m hm',fun t s e=>?_,?_⟩,by omega,hl,by omega,hp,k1,fun m hm=>?_⟩
 ·have:=eQ (h4 m hm' t s e);omega
 ·have:=qQv hm';omega
 ·rcases (h2 m hm).1 with h|h
  ·rw [h];decide
  ·exact P.k24 _ h
def Fs.sureA (fs:Fs) (l:List (Nat×Pg)) (m:Nat) (mt:Pg):Bool×Fs:=if fs.life==0 then (false,fs) else fs.wrA (mK l) m mt.encS
theorem qHy:∀ (l:List (Nat×Pg)) {fs:Fs},fs.well→fs.wrL (mK l)=(true,fs.puts l)
 | [],fs,h=>by rw [qIx];rfl
 | y :: l,fs,h=>by
  show (if fs.chOk then _ else _)=_
  rw [(Fs.well_ok h).1,(Fs.well_ok h).2,if_pos rfl]
  refine(qHy l (Fs.well_put h y.1 y.2.encS)).trans ?_
  simp [Fs.puts,Fs.put]
theorem qMm (h:fs.well) (l:List (Nat×Pg)) (m:Nat) (mt:Pg):fs.sureA l m mt=(true,fs.made l m mt):=by
 have hS:∀ {f:Fs},f.well→f.wrS=f.synced:=fun hf=>by rw [Fs.wrS,(Fs.well_ok hf).1,(Fs.well_ok hf).2,if_pos rfl]
 have h1:=Fs.well_puts h l
 have h2:=Fs.well_synced h1
 have h3:=Fs.well_put h2 m mt.encS
 have hP:(fs.puts l).synced.wrP m mt.encS=(fs.puts l).synced.put m mt.encS:=by rw [Fs.wrP,(Fs.well_ok h2).1,(Fs.well_ok h2).2,if_pos rfl]
 rw [Fs.sureA,Fs.well_alive h,Fs.wrA,qHy l h]
 show (fs.puts l).wrE m mt.encS=_
 rw [Fs.wrE,hS h1,(Fs.well_ok h1).1,(Fs.well_ok h2).1,hP,(Fs.well_ok h3).1,hS h3]
 rfl
abbrev Db.sure (D:Db) (lv':Value) (fs':Fs) (v rt:Nat):Db:={ D with lv:=lv',fs:=fs',ver:=(v:Nat),root:=rt,aroot:=D.root,ka:=none,ia:=none,ea:=none,kc:=0,ic:=0,ec:=0 }
abbrev Db.made (D:Db) (lv':Value) (l:List (Nat×Pg)) (v rt:Nat):Db:={ D with lv:=lv',fs:=D.fs.made l (v % 2) (bO (v:Nat) (rt:Nat)),ver:=(v:Nat),root:=rt,aroot:=D.root,ka:=none,ia:=none,ea:=none,kc:=0,ic:=0,ec:=0 }
theorem qIq {b:Nat} {x0 x1 x2 x3 x4 x5 x6 x7 x8 x9 x10 x11 x12 x13 x14:Value} {t:TypeId} (h:w.heap[b]?=some (.cells #[x0,x1,x2,x3,x4,x5,x6,x7,x8,x9,x10,x11,x12,x13,x14] t)) (v3 v4 v5 v6 v7 v8 v9 v10 v11:Value):(qYo (w.setCell ⟨b,11,none⟩ v11) b v3 v4 v5 v6 v7 v8 v9 v10).heap[b]?=some (.cells #[x0,x1,x2,v3,v4,v5,v6,v7,v8,v9,v10,v11,x12,x13,x14] t):=by
 have:=aI (aI (aI (aI (aI (aI (aI (aI (aI h 11 v11) 3 v3) 4 v4) 5 v5) 6 v6) 7 v7) 8 v8) 9 v9) 10 v10
 simpa using this
theorem qMs (w:World) (b:Nat) (v3 v4 v5 v6 v7 v8 v9 v10 v11:Value):Fr (Bl.one b) w (qYo (w.setCell ⟨b,11,none⟩ v11) b v3 v4 v5 v6 v7 v8 v9 v10) :=
 (((((((((Fr.refl (Bl.one b) w).setCell (p:=⟨b,11,none⟩) (.inl rfl) _).setCell (p:=⟨b,3,none⟩) (.inl rfl) _).setCell (p:=⟨b,4,none⟩) (.inl rfl) _).setCell (p:=⟨b,5,none⟩) (.inl rfl) _).setCell (p:=⟨b,6,none⟩) (.inl rfl) _).setCell (p:=⟨b,7,none⟩) (.inl rfl) _).setCell (p:=⟨b,8,none⟩) (.inl rfl) _).setCell (p:=⟨b,9,none⟩) (.inl rfl) _).setCell (p:=⟨b,10,none⟩) (.inl rfl) _
theorem qUp (D:Db) (st:Int) (v:Nat) (o ao:Option (Nat×T)) (ot:Tx→Option (Nat×T)) (ca:Option Addr) (cc:Nat) (cs:List Ch) (S:Bl) (w:World) (h:aS w st D) (hw:D.fs.dy) (hfd:D.failed=false) (hv:D.ver=v) (hv63:v+1<9223372036854775808) (hn:D.ts.length≤1000) (ST:gN K n D.fs v o ao) (h2:2≤n) (hr:D.root=rootOf o) (har:D.aroot=rootOf ao) (hts:∀ t∈D.ts,bF D.fs (rootOf (ot t)) (ot t)∧t.root=rootOf (ot t))
  (P:wM K n D.fs o cs (frD D o ao ot)) (hR:aL w S ca (cs.flatMap Ch.cells)) (hS:∀ b,S b→b<w.heap.size) (hcn:cs.length≤1000) (hc:cs.length≤cc) (hca:(ca=none∧cc=0)∨∃ b off,ca=some ⟨b,off,none⟩) (b:Bool) (fs':Fs) (hRR:D.fs.sureA (dH o cs (frD D o ao ot)).2 ((v+1) % 2) (bO (v+1:Nat) (rootOf (dH o cs (frD D o ao ot)).1:Nat))=(b,fs')) :
  Calls Tryz.prog 76 #[.pointer (some ⟨D.d,0,none⟩),.slice ca cs.length cc] w fun e w'=>e=.returned (.bool b)∧∃ lv',aS w' st (if b then D.sure lv' fs' (v+1) (rootOf (dH o cs (frD D o ao ot)).1) else { D with lv:=lv',fs:=fs' })∧Fr (fun k=>k=D.d∨fpF D.β D.sv D.lv k) w w'∧aK w (fpF D.β D.sv D.lv) (fpF D.β D.sv lv'):=by
 cases hal:D.fs.life==0
 case true =>
  rw [Fs.sureA,hal,if_pos rfl] at hRR
  obtain⟨rfl,rfl⟩:=Prod.mk.inj hRR
  have hDe:=oC D.β D.sv D.lv D.fs w h.file
  rw [hal] at hDe
  obtain⟨a0,a1,a2,a3,a4,a5,a6,a7,a8,a9,a10,a11,a12,a13,a14⟩:=eS h.box
  have H:Hid (aS w st D):=h
  clear h hRR P ST hts hR hv hr har hfd
  go_enter Tryz.func76,Tryz.ntmps76
  go_wp2_with (go_at_call 61;(with_reducible refine Calls.mono hDe ?_);rintro e w' ⟨rfl,hw'⟩;subst w')
  go_ret
  exact⟨rfl,D.lv,H.out,Fr.refl _ _,aK.refl _ _⟩
 case false =>
 rw [Fs.sureA,hal,if_neg (by decide)] at hRR
 have hDe:=oC D.β D.sv D.lv D.fs w h.file
 rw [hal] at hDe
 have hlen:D.fs.safe.length=n:=ST.len
 have hm0:dR D.fs (v % 2) v D.root:=hr▸ST.meta0
 have hPl:=qTs D st v o ao ot ca cc cs S w h hv hv63 hn hal (by omega) hm0 ST.sure.rooted hr ST.sure.flat ST.ahead.rooted har hts hR hS P.rise hcn hc hca (qZe P) (vAe P)
 obtain⟨c1,c2,c3,_,_⟩:=vB ST P hv63 h2
 have hr2:=c1.sure.root
 obtain⟨fr,hfr⟩:=nM (frD D o ao ot)
 rw [hfr] at hPl P c2 c3 hr2 hRR ⊢
 have hen:=P.enough
 have hks:=qCa P.ksum
 have hlp:∀ y∈(dH o cs fr).2,y.1<D.fs.safe.length:=fun y hy=>by
  have:y.1∈(dH o cs fr).2.map (·.1):=List.mem_map.2 ⟨y,hy,rfl⟩
  rw [c3] at this
  have:=P.free _ (List.mem_of_mem_take this)
  omega
 obtain⟨rt,hrt⟩:=nM (rootOf (dH o cs fr).1)
 obtain⟨l,hll⟩:=nM ((dH o cs fr).2)
 rw [hrt,hll] at hPl hRR
 rw [hrt]
 rw [hrt] at hr2
 rw [hll] at c2 hen hlp
 have hmE:(bO ((v+1:Nat):Int) (rt:Nat)).encE=0:=uY (v+1:Nat) rt (by omega) (hr2.imp (fun h=>by rw [h];rfl) id)
 obtain⟨a0,a1,a2,a3,a4,a5,a6,a7,a8,a9,a10,a11,a12,a13,a14⟩:=eS h.box
 have dlt:=(Array.getElem?_eq_some_iff.1 h.box).1
 have HW:Hid (∀ X wa wc,Below w.heap.size w X→aL X (New w X) wa ((l.map enc1).flatMap dB)→l.length≤wc→Calls Tryz.prog 108 #[.pointer (some ⟨D.d,0,none⟩),.agg #[.int .i64 (rt:Nat),.slice wa l.length wc],.agg #[.int .i64 1,.int .i64 ((v:Int)+1),.int .i64 (rt:Nat),.int .i64 0,.slice none 0 0,.slice none 0 0,.slice none 0 0,.string ⟨#[]⟩]] X fun e w'=>e=.returned (.bool b)∧∃ lv',aS w' st { D with lv:=lv',fs:=fs' }∧Fr (fpF D.β D.sv D.lv) X w'∧aK X (fpF D.β D.sv D.lv) (fpF D.β D.sv lv')):=fun X wa wc hX hRX hwc=>by
  have hDX:=h.on (On.of_below hX h.lies)
  exact vAc D st l ⟨0,v+1,rt,none,none,none,0,0,0⟩ rt wa wc (New w X) X hDX hw ST.late hRX (fun k hk=>⟨hk.2,fun e=>by have:=h.file.lies k e;have:=hk.1;omega⟩) hwc (by omega) c2 hlp hmE (qBb _ _) (by omega) (b,fs') hRR
 rw [hfd] at a12
 have HFX:Hid (∀ X,Below w.heap.size w X→X.cell? ⟨D.d,2,none⟩=some (.pointer (some ⟨D.β,0,none⟩))∧X.cell? ⟨D.d,12,none⟩=some (.bool false)):=fun X hX=>by
  have hDX:=h.on (On.of_below hX h.lies)
  obtain⟨a0,a1,a2,a3,a4,a5,a6,a7,a8,a9,a10,a11,a12,a13,a14⟩:=eS hDX.box
  rw [hfd] at a12
  exact⟨a2,a12⟩
 have HNF:Hid (∀ k,w.heap.size≤k→¬ fpF D.β D.sv D.lv k):=fun k hk e=>by have:=h.file.lies k e;omega
 have HND:Hid (¬ fpF D.β D.sv D.lv D.d):=h.noFile
 clear hfd hRR hfr hrt hll P ST hts hR hw c1 c2 c3 hmE hen hlp h hr har hv hlen hks a0 a1 a3 a4 a5 a6 a7 a8 a9 a10 a11 a13 a14 hm0
 go_enter Tryz.func76,Tryz.ntmps76
 cases b
 all_goals go_wp2_with (first
  | (go_at_call 61;(with_reducible refine Calls.mono hDe ?_);rintro e w' ⟨rfl,hw'⟩;subst w')
  | (go_at_call 107;(with_reducible refine Calls.mono hPl ?_);rintro e X1 ⟨wa,wc,rfl,hRX,hwc,hX1⟩;have zX1:=hX1.size;have B2:Below w.heap.size w ((X1.alloc (gE (rt:Nat) (.slice wa l.length wc))).alloc (qAq ((v:Int)+1) (rt:Nat))):=(hX1.alloc zX1 _).alloc (by simp;omega) _;have b2:((X1.alloc (gE (rt:Nat) (.slice wa l.length wc))).alloc (qAq ((v:Int)+1) (rt:Nat))).heap[X1.heap.size]?=some (gE (rt:Nat) (.slice wa l.length wc)):=aF _ (aB X1 _);have g2:((X1.alloc (gE (rt:Nat) (.slice wa l.length wc))).alloc (qAq ((v:Int)+1) (rt:Nat))).heap[X1.heap.size+1]?=some (qAq ((v:Int)+1) (rt:Nat)):=(by have:=aB (X1.alloc (gE (rt:Nat) (.slice wa l.length wc))) (qAq ((v:Int)+1) (rt:Nat));simpa using this);obtain⟨k2,k12⟩:=HFX.out _ B2;obtain⟨q0,q1⟩:=bQ b2;obtain⟨r0,r1,r2,r3,r4,r5,r6,r7⟩:=bH g2;have hWr:=HW.out ((X1.alloc (gE (rt:Nat) (.slice wa l.length wc))).alloc (qAq ((v:Int)+1) (rt:Nat))) wa wc B2 ((hRX.on (((On.refl (New w X1) X1).alloc (fun k hk=>hk.2) _).alloc (fun k hk=>by have:=hk.2;simp;omega) _)).mono (fun k hk=>⟨hk.1,by have:=hk.2;simp;omega⟩)) hwc)
  | (go_at_call 108;(with_reducible refine Calls.mono hWr ?_);rintro e X3 ⟨rfl,lv',hD3,hF3,hG3⟩;obtain⟨a0,a1,a2,a3,a4,a5,a6,a7,a8,a9,a10,a11,a12,a13,a14⟩:=eS hD3.box;have afr:=aJ hD3.box;have g3:=hF3.heap g2 (HNF.out _ (by omega));obtain⟨r0,r1,r2,r3,r4,r5,r6,r7⟩:=bH g3))
 ·go_ret
  exact⟨rfl,lv',hD3,(Fr.of_below B2).trans (hF3.mono (fun k hk=>.inl (.inr hk))),fun k hk=>(hG3 k hk).imp id (fun h=>by have:=B2.size;omega)⟩
 have hfn:¬ fpF D.β D.sv D.lv D.d:=HND.out
 have HBX:=qIq hD3.box (.int .i64 1) (.int .i64 ((v:Int)+1)) (.int .i64 (rt:Nat)) (.int .i64 0) (.slice none 0 0) (.slice none 0 0) (.slice none 0 0) (.string ⟨#[]⟩) (.int .i64 D.root)
 have HFX8:=qMs X3 D.d (.int .i64 1) (.int .i64 ((v:Int)+1)) (.int .i64 (rt:Nat)) (.int .i64 0) (.slice none 0 0) (.slice none 0 0) (.slice none 0 0) (.string ⟨#[]⟩) (.int .i64 D.root)
 have hDf:aS _ st (D.sure lv' fs' (v+1) rt):=hD3.rebox (D':=D.sure lv' fs' (v+1) rt) HFX8 rfl rfl rfl rfl rfl rfl rfl HBX
 go_ret
 refine⟨rfl,lv',hDf,?_,fun k hk=>(hG3 k hk).imp id (fun h=>by have:=B2.size;omega)⟩
 exact((Fr.of_below B2).trans (hF3.mono (fun k hk=>.inl (.inr hk)))).trans (HFX8.mono (fun k hk=>.inl (.inl hk)))
abbrev Db.drop (D:Db) (i g c:Nat):Db:={ D with ov:=.slice (some ⟨g,0,none⟩) (D.ts.length-1) c,ts:=D.ts.eraseIdx i }
theorem qWw {D:Db} {i g c:Nat} (hov:D.ov=.slice (some ⟨g,0,none⟩) D.ts.length c):∀ k,fpD (D.drop i g c) k→fpD D k:=by
 rintro k (hk|hk|hk|⟨y,hy,hk⟩)
 ·exact .inl hk
 ·exact .inr (.inl hk)
 ·have hk':(Value.slice (some ⟨g,0,none⟩) (D.ts.length-1) c).ownBlock=some k:=hk
  exact .inr (.inr (.inl (by rw [hov];exact hk')))
 ·exact .inr (.inr (.inr ⟨y,List.mem_of_mem_eraseIdx hy,hk⟩))
theorem vBk (D:Db) (x:Int) (i:Nat) (t:Tx) (b0 b1:Nat) (w:World) (h:aS w 1 D) (hn:D.ts.length≤1000) (hi:i<D.ts.length) (ht:D.ts[i]=t) (hidx:nX D.ts x=i) (R:Int→Db→Prop)
  (hco:∀ X g c,D.ov=.slice (some ⟨g,0,none⟩) D.ts.length c→aS X 1 (D.drop i g c)→iX X D.β t→Calls Tryz.prog 51 #[.pointer (some ⟨D.d,0,none⟩),.pointer (some ⟨t.b,0,none⟩)] X fun e w'=>∃ z D',e=.returned (.int .i64 z)∧aS w' 1 D'∧D'.d=D.d∧Fr (fpD (D.drop i g c)) X w'∧aK X (fpD (D.drop i g c)) (fpD D')∧R z D')
  (x0:w.heap[b0]?=some (.cells #[.pointer (some ⟨D.d,0,none⟩)] 23)) (x1:w.heap[b1]?=some (.cells #[.int .i64 x] 3)) :
  Calls Tryz.prog 50 #[.pointer (some ⟨b0,0,none⟩),.pointer (some ⟨b1,0,none⟩)] w fun e w'=>∃ z D',e=.returned (.int .i64 z)∧aS w' 1 D'∧D'.d=D.d∧Fr (fpD D) w w'∧aK w (fpD D) (fpD D')∧R z D':=by
 have hEn:=qZk D 1 x i t w h (by omega) hi ht hidx
 have HCO:Hid (∀ X g c,D.ov=.slice (some ⟨g,0,none⟩) D.ts.length c→aS X 1 (D.drop i g c)→iX X D.β t→Calls Tryz.prog 51 #[.pointer (some ⟨D.d,0,none⟩),.pointer (some ⟨t.b,0,none⟩)] X fun e w'=>∃ z D',e=.returned (.int .i64 z)∧aS w' 1 D'∧D'.d=D.d∧Fr (fpD (D.drop i g c)) X w'∧aK X (fpD (D.drop i g c)) (fpD D')∧R z D'):=hco
 have HBX:Hid (∀ X,Fr (fun k=>k=D.d∨D.ov.ownBlock=some k) w X→X.cell? ⟨b0,0,none⟩=some (.pointer (some ⟨D.d,0,none⟩))):=fun X hX=>dE (hX.heap x0 (fun e=>by
  rcases e with e|e
  ·have:=h.box;rw [← e,x0] at this;simp at this
  ·exact bD h.row x0 (by decide) e))
 have c0:=dE x0
 have c1:=dE x1
 clear h x0 x1 hidx hco ht hi
 go_enter Tryz.func50,Tryz.ntmps50
 go_wp2_with (first
  | (go_at_call 42;(with_reducible refine Calls.mono hEn ?_);rintro e X1 ⟨rfl,g,c,hov,hD1,hT1,hF1⟩;have F1:Fr (fun k=>k=D.d∨D.ov.ownBlock=some k) w X1:=⟨hF1.os,hF1.tape,hF1.output,hF1.size,fun k hk hn=>hF1.block k hk (fun e=>hn (e.imp id (fun h=>by rw [hov,h];rfl)))⟩;have c0':=HBX.out X1 F1;have hCo:=HCO.out X1 g c hov hD1 hT1;have HOV:Hid (D.ov=.slice (some ⟨g,0,none⟩) D.ts.length c):=hov;clear hov)
  | (go_at_call 51;(with_reducible refine Calls.mono hCo ?_);rintro e X2 ⟨z,D',rfl,hD2,hd2,hF2,hG2,hR2⟩;have HD2:Hid (aS X2 1 D'):=hD2;have HR2:Hid (R z D'):=hR2;have HE2:Hid (D'.d=D.d):=hd2;clear hD2 hR2 hd2))
 go_ret
 have hsub:=qWw (i:=i) HOV.out
 refine⟨z,D',rfl,HD2.out,HE2.out,?_,fun k hk=>?_,HR2.out⟩
 ·exact(F1.mono (fun k hk=>.inl (by rcases hk with hk|hk;exact .inl hk;exact .inr (.inr (.inl hk))))).trans (hF2.mono (fun k hk=>.inl (hsub k hk)))
 ·exact(hG2 k hk).imp (hsub k) (fun h=>Nat.le_trans F1.size h)
theorem vCy (D:Db) (x:Int) (i:Nat) (t:Tx) (w:World) (h:aS w 0 D) (hn:D.ts.length≤1000) (hi:i<D.ts.length) (ht:D.ts[i]=t) (hidx:nX D.ts x=i) (R:Int→Db→Prop)
  (hco:∀ X g c,D.ov=.slice (some ⟨g,0,none⟩) D.ts.length c→aS X 1 (D.drop i g c)→iX X D.β t→Calls Tryz.prog 51 #[.pointer (some ⟨D.d,0,none⟩),.pointer (some ⟨t.b,0,none⟩)] X fun e w'=>∃ z D',e=.returned (.int .i64 z)∧aS w' 1 D'∧D'.d=D.d∧Fr (fpD (D.drop i g c)) X w'∧aK X (fpD (D.drop i g c)) (fpD D')∧R z D') :
  Calls Tryz.prog 26 #[.pointer (some ⟨D.d,0,none⟩),.int .i64 x] w fun e w'=>∃ z D',e=.returned (.int .i64 z)∧aS w' 0 D'∧D'.d=D.d∧Fr (fpD D) w w'∧aK w (fpD D) (fpD D')∧R z D':=by
 obtain⟨W1,hW1⟩:=nM ((w.alloc (.cells #[.pointer (some ⟨D.d,0,none⟩)] 23)).alloc (.cells #[.int .i64 x] 3))
 have B1:Below w.heap.size w W1:=hW1▸((Below.refl _ _).alloc (Nat.le_refl _) _).alloc (by simp) _
 have x0:W1.heap[w.heap.size]?=some (.cells #[.pointer (some ⟨D.d,0,none⟩)] 23):=hW1▸aF _ (aB w _)
 have x1:W1.heap[w.heap.size+1]?=some (.cells #[.int .i64 x] 3):=by
  rw [← hW1];have:=aB (w.alloc (.cells #[.pointer (some ⟨D.d,0,none⟩)] 23)) (.cells #[.int .i64 x] 3);simpa using this
 have h1:aS W1 0 D:=h.on (On.of_below B1 h.lies)
 have dlt:=(Array.getElem?_eq_some_iff.1 h.box).1
 have c0:=dE x0
 have hFc:=qHh D 50 #[] #[.pointer (some ⟨w.heap.size,0,none⟩),.pointer (some ⟨w.heap.size+1,0,none⟩)] (enters_of Tryz.func50 (by kernel_rfl) rfl) W1 h1 R (by
  intro W0 hD0 hF0 hs0
  have nd:∀ k,w.heap.size≤k→¬ Bl.one D.d k:=fun k hk e=>by simp only [Bl.one] at e;omega
  exact vBk D x i t _ _ W0 hD0 hn hi ht hidx R hco (hF0.heap x0 (nd _ (by omega))) (hF0.heap x1 (nd _ (by omega))))
 clear x0 x1 hco
 go_enter Tryz.func26,Tryz.ntmps26
 go_wp2_with (go_at_call 35;(with_reducible refine Calls.mono hFc ?_);rintro e X ⟨z,D',rfl,hD',hd',hF',hG',hR⟩;have HD':Hid (aS X 0 D'):=hD';have HR':Hid (R z D'):=hR;have HE':Hid (D'.d=D.d):=hd';clear hD' hR hd')
 go_ret
 exact⟨z,D',rfl,HD'.out,HE'.out,(Fr.of_below B1).trans hF',fun k hk=>(hG' k hk).imp id (fun h=>Nat.le_trans B1.size h),HR'.out⟩
theorem vBj (D:Db) (x:Int) (t:Tx) (w:World) (h:aS w 0 D) (hts:D.ts=[t]) (hx:t.num=x) (R:Int→Db→Prop)
  (hco:∀ X g c,D.ov=.slice (some ⟨g,0,none⟩) 1 c→aS X 1 { D with ov:=.slice (some ⟨g,0,none⟩) 0 c,ts:=[] }→iX X D.β t→Calls Tryz.prog 51 #[.pointer (some ⟨D.d,0,none⟩),.pointer (some ⟨t.b,0,none⟩)] X fun e w'=>∃ z D',e=.returned (.int .i64 z)∧aS w' 1 D'∧D'.d=D.d∧D'.β=D.β∧D'.sv=D.sv∧D'.ov=.slice (some ⟨g,0,none⟩) 0 c∧D'.ts=[]∧Fr (fun k=>k=D.d∨fpF D.β D.sv D.lv k) X w'∧aK X (fpF D.β D.sv D.lv) (fpF D.β D.sv D'.lv)∧R z D') :
  Calls Tryz.prog 26 #[.pointer (some ⟨D.d,0,none⟩),.int .i64 x] w fun e w'=>∃ z D',e=.returned (.int .i64 z)∧aS w' 0 D'∧D'.d=D.d∧Fr (fpD D) w w'∧aK w (fpD D) (fpD D')∧R z D':=by
 have e1:D.ts.length=1:=by rw [hts];rfl
 have hdr:∀ g c,D.drop 0 g c = { D with ov:=.slice (some ⟨g,0,none⟩) 0 c,ts:=[] }:=fun g c=>by simp [Db.drop,hts]
 refine vCy D x 0 t w h (by omega) (by omega) (by simp [hts]) (by rw [hts];exact nW (j:=0) (by simp) (by simp [hx]) (fun m hm h=>by omega)) R (fun X g c hov hX hTX=>?_)
 rw [e1] at hov
 rw [hdr] at hX
 refine(hco X g c hov hX hTX).mono ?_
 rintro e w' ⟨z,D',rfl,hD,q1,q2,q3,q4,q5,hF,hG,hR⟩
 refine⟨z,D',rfl,hD,q1,hF.mono (fun k hk=>.inl ?_),?_,hR⟩
 ·exact hk.imp id (fun h=>.inl h)
 ·rintro k (hk|hk|hk|⟨y,hy,hk⟩)
  ·exact .inl (.inl (hk.trans q1))
  ·rw [q2,q3] at hk
   exact(hG k hk).imp (fun h=>.inr (.inl h)) id
  ·rw [q4] at hk
   rw [hdr]
   exact .inl (.inr (.inr (.inl hk)))
  ·rw [q5] at hy;simp at hy
abbrev noT:Tx→Option (Nat×T):=fun _=>none
abbrev Db.done (D:Db) (lv':Value) (b:Bool) (fs':Fs) (v rt:Nat):Db:=if b then D.sure lv' fs' v rt else { D with lv:=lv',fs:=fs',failed:=true }
theorem qXp (D:Db) (st:Int) (v:Nat) (o ao:Option (Nat×T)) (t:Tx) (w:World) (h:aS w st D) (hT:iX w D.β t) (hts:D.ts=[]) (hne:0<t.cs.length) (hks:t.ks=[]) (hcn:t.cs.length≤1000) (hw:D.fs.dy) (hfd:D.failed=false) (hv:D.ver=v) (hv63:v+1<9223372036854775808) (ST:gN K n D.fs v o ao) (h2:2≤n) (hr:D.root=rootOf o) (har:D.aroot=rootOf ao) (P:wM K n D.fs o t.cs (frD D o ao noT)) (b:Bool) (fs':Fs) (hRR:D.fs.sureA (dH o t.cs (frD D o ao noT)).2 ((v+1) % 2) (bO (v+1:Nat) (rootOf (dH o t.cs (frD D o ao noT)).1:Nat))=(b,fs')) :
  Calls Tryz.prog 51 #[.pointer (some ⟨D.d,0,none⟩),.pointer (some ⟨t.b,0,none⟩)] w fun e w'=>e=.returned (.int .i64 (if b then 0 else 9))∧∃ lv',aS w' st (D.done lv' b fs' (v+1) (rootOf (dH o t.cs (frD D o ao noT)).1))∧Fr (fun k=>k=D.d∨fpF D.β D.sv D.lv k) w w'∧aK w (fpF D.β D.sv D.lv) (fpF D.β D.sv lv'):=by
 have hCf:=qCe D.β t w hT (by omega) (by rw [hks];simp)
 obtain⟨rt,hrt⟩:=nM (rootOf (dH o t.cs (frD D o ao noT)).1)
 have HMS:Hid (∀ X,Below w.heap.size w X→Calls Tryz.prog 76 #[.pointer (some ⟨D.d,0,none⟩),.slice t.ca t.cs.length t.cc] X fun e w'=>e=.returned (.bool b)∧∃ lv',aS w' st (if b then D.sure lv' fs' (v+1) rt else { D with lv:=lv',fs:=fs' })∧Fr (fun k=>k=D.d∨fpF D.β D.sv D.lv k) X w'∧aK X (fpF D.β D.sv D.lv) (fpF D.β D.sv lv')):=fun X hX=>by
  have hDX:=h.on (On.of_below hX h.lies)
  have hTX:=hT.on (On.of_below hX hT.lies)
  obtain⟨a0,c0,he,hcc,hrow⟩:=cU hTX.row
  simp only [Tx.cv,Value.slice.injEq,true_and] at he
  obtain⟨e1,e2⟩:=he
  subst e1 e2
  have:=qUp D st v o ao noT t.ca t.cc t.cs (fun k=>t.cv.ownBlock=some k) X hDX hw hfd hv hv63 (by rw [hts];simp) ST h2 hr har (by rw [hts];simp) P hrow (fun k hk=>bI hTX.row hk) hcn hcc (by
   rcases iP hTX.row with⟨h3,h4,_⟩|⟨g,c,cur,h3,_⟩
   ·simp only [Tx.cv,Value.slice.injEq] at h3;exact .inl ⟨h3.1,h3.2.2⟩
   ·simp only [Tx.cv,Value.slice.injEq] at h3;exact .inr ⟨g,0,h3.1⟩) b fs' hRR
  rw [hrt] at this
  exact this
 rw [hrt]
 have hD0:=(qHt hT.box).2.2.2.2.1
 have hni:¬ ((t.cs.length:Int)=0):=by omega
 have HTS:Hid (D.ts=[]):=hts
 have HOV:Hid (∀ X lv',aS X st (D.sure lv' fs' (v+1) rt)→∃ ova ovc,D.ov=.slice ova 0 ovc∧X.cell? ⟨D.d,14,none⟩=some (.slice ova 0 ovc)):=fun X lv' hX=>by
  obtain⟨a0,a1,a2,a3,a4,a5,a6,a7,a8,a9,a10,a11,a12,a13,a14⟩:=eS hX.box
  have hr:=hX.row
  have e:(D.sure lv' fs' (v+1) rt).ts.length=0:=by show D.ts.length=0;rw [HTS.out];rfl
  rw [e] at hr
  obtain⟨ova,ovc,he⟩:=aT hr
  have he':D.ov=.slice ova 0 ovc:=he
  exact⟨ova,ovc,he',by rw [← he'];exact a14⟩
 clear hRR hrt P ST hw hT h hts hv hr har hfd
 cases b
 ·go_enter Tryz.func51,Tryz.ntmps51
  go_wp2_with (first
   | (go_at_call 75;(with_reducible refine Calls.mono hCf ?_);rintro e X1 ⟨rfl,hX1⟩;have hMS:=HMS.out X1 hX1)
   | (go_at_call 76;(with_reducible refine Calls.mono hMS ?_);rintro e X2 ⟨rfl,lv',hDx,hF2,hG2⟩;have hD2:aS X2 st { D with lv:=lv',fs:=fs' }:=hDx;clear hDx;obtain⟨a0,a1,a2,a3,a4,a5,a6,a7,a8,a9,a10,a11,a12,a13,a14⟩:=eS hD2.box;have afr:=aJ hD2.box))
  have HBX:=aI hD2.box 12 (.bool true)
  have HFX:Fr (Bl.one D.d) X2 (X2.setCell ⟨D.d,12,none⟩ (.bool true)):=(Fr.refl (Bl.one D.d) X2).setCell (p:=⟨D.d,12,none⟩) (.inl rfl) _
  have hDf:aS _ st { D with lv:=lv',fs:=fs',failed:=true }:=hD2.rebox (D':={ D with lv:=lv',fs:=fs',failed:=true }) HFX rfl rfl rfl rfl rfl rfl rfl (by simpa using HBX)
  go_ret
  exact⟨rfl,lv',hDf,(Fr.of_below hX1).trans (hF2.trans (HFX.mono (fun k hk=>.inl (.inl hk)))),fun k hk=>(hG2 k hk).imp id (fun h=>Nat.le_trans hX1.size h)⟩
 go_enter Tryz.func51,Tryz.ntmps51
 go_wp2_with (first
  | (go_at_call 75;(with_reducible refine Calls.mono hCf ?_);rintro e X1 ⟨rfl,hX1⟩;have hMS:=HMS.out X1 hX1)
  | (go_at_call 76;(with_reducible refine Calls.mono hMS ?_);rintro e X2 ⟨rfl,lv',hD2,hF2,hG2⟩;obtain⟨ova,ovc,hov,c14⟩:=HOV.out X2 lv' hD2))
 go_loopw [30] (fun i wq=>i=.int .i64 0∧wq=X2) (fun _ _=>0)
 case atStart=>exact⟨rfl,rfl⟩
 case round =>
  obtain⟨rfl,hwr⟩:=hrel
  subst hwr
  go_wp2
  go_ret
  exact⟨rfl,lv',hD2,(Fr.of_below hX1).trans hF2,fun k hk=>(hG2 k hk).imp id (fun h=>Nat.le_trans hX1.size h)⟩
theorem qPd (D:Db) (st:Int) (v:Nat) (o ao:Option (Nat×T)) (t:Tx) (w:World) (h:aS w st D) (hT:iX w D.β t) (hts:D.ts=[]) (hne:0<t.cs.length) (hks:t.ks=[]) (hcn:t.cs.length≤1000) (hw:D.fs.well) (hfd:D.failed=false) (hv:D.ver=v) (hv63:v+1<9223372036854775808) (ST:gN K n D.fs v o ao) (h2:2≤n) (hr:D.root=rootOf o) (har:D.aroot=rootOf ao) (P:wM K n D.fs o t.cs (frD D o ao noT)) :
  Calls Tryz.prog 51 #[.pointer (some ⟨D.d,0,none⟩),.pointer (some ⟨t.b,0,none⟩)] w fun e w'=>e=.returned (.int .i64 0)∧∃ lv',aS w' st (D.made lv' (dH o t.cs (frD D o ao noT)).2 (v+1) (rootOf (dH o t.cs (frD D o ao noT)).1))∧Fr (fun k=>k=D.d∨fpF D.β D.sv D.lv k) w w'∧aK w (fpF D.β D.sv D.lv) (fpF D.β D.sv lv') :=
 qXp D st v o ao t w h hT hts hne hks hcn (Fs.well_dy hw) hfd hv hv63 ST h2 hr har P true _ (qMm hw _ _ _)
def vDb (D:Db) (v:Nat) (l:List (Nat×Pg)) (rt:Nat) (z:Int) (D':Db):Prop:=z=0∧∃ g c lv',D.ov=.slice (some ⟨g,0,none⟩) 1 c∧D'=({ D with ov:=.slice (some ⟨g,0,none⟩) 0 c,ts:=[] }:Db).made lv' l (v+1) rt
theorem qZn (D:Db) (x:Int) (v:Nat) (o ao:Option (Nat×T)) (t:Tx) (w:World) (h:aS w 0 D) (hts:D.ts=[t]) (hx:t.num=x) (hne:0<t.cs.length) (hks:t.ks=[]) (hcn:t.cs.length≤1000) (hw:D.fs.well) (hfd:D.failed=false) (hv:D.ver=v) (hv63:v+1<9223372036854775808) (ST:gN K n D.fs v o ao) (h2:2≤n) (hr:D.root=rootOf o) (har:D.aroot=rootOf ao) (P:wM K n D.fs o t.cs (iU D.fs.safe.length (eY [o,ao]))) :
  Calls Tryz.prog 26 #[.pointer (some ⟨D.d,0,none⟩),.int .i64 x] w fun e w'=>∃ z D',e=.returned (.int .i64 z)∧aS w' 0 D'∧D'.d=D.d∧Fr (fpD D) w w'∧aK w (fpD D) (fpD D')∧vDb D v (dH o t.cs (iU D.fs.safe.length (eY [o,ao]))).2 (rootOf (dH o t.cs (iU D.fs.safe.length (eY [o,ao]))).1) z D':=by
 refine vBj D x t w h hts hx _ (fun X g c hov hX hTX=>?_)
 refine(qPd (K:=K) (n:=n) _ 1 v o ao t X hX hTX rfl hne hks hcn hw hfd hv hv63 ST h2 hr har P).mono ?_
 rintro e w' ⟨rfl,lv',hD,hF,hG⟩
 exact⟨0,_,rfl,hD,rfl,rfl,rfl,rfl,rfl,hF,hG,rfl,g,c,lv',hov,rfl⟩
end Go.Proofs.YtfnhmpcpeahfkaaGreat.Tree
