/-
  Joined: ChangB.
-/
import Derived.Test.YtfnhmpcpeahfkaaGreatU19
import Derived.Test.YtfnhmpcpeahfkaaGreatU47
set_option linter.unusedSimpArgs false
set_option linter.unusedVariables false
set_option maxRecDepth 100000
set_option maxHeartbeats 8000000
namespace Go.Proofs.YtfnhmpcpeahfkaaGreat.Tree
open Go.RowKit Go.Shelf Pages
variable {ms:List MN}
attribute [local go_sem] Oper.semAt_some
def kO (s:Sp) (ks:List ByteArray) (kids:List T) (cs:List Ch) (j:Nat):List NT:=((parts s ks kids).take j).flatMap (fun x=>eT x cs)
theorem qOr (s:Sp) (ks:List ByteArray) (kids:List T) (cs:List Ch) (j:Nat) (x:T×Sp) (h:(parts s ks kids)[j]?=some x):kO s ks kids cs (j+1)=kO s ks kids cs j++eT x cs:=by
 obtain⟨h1,h2⟩:=List.getElem?_eq_some_iff.1 h
 unfold kO
 rw [List.take_succ_eq_append_getElem h1,List.flatMap_append,h2]
 simp
theorem qKs (s:Sp) (ks:List ByteArray) (kids:List T) (cs:List Ch) (j:Nat):(kO s ks kids cs j).length≤((parts s ks kids).flatMap (fun x=>eT x cs)).length:=by
 unfold kO
 conv=>rhs;rw [← List.take_append_drop j (parts s ks kids),List.flatMap_append,List.length_append]
 omega
structure qYd (fs:Fs) (ns:List NT):Prop where
 each:∀ j,j≤ns.length→∀ n∈jM ns j++ns.drop j,Ok0 fs n∧mG n∧n.ents0.length≤1000
 count:∀ j,j≤ns.length→(jM ns j).length≤1000000
 len:ns.length≤100000
 lo:∀ n∈kD eB ns,n.sp.lo.size≤24
 jlen:(kD eB ns).length≤100000
abbrev qDz (s:Sp):Obj:=.cells #[.string s.lo,.string s.hi] 135
abbrev kK (β:Nat) (root:Int) (ca:Option Addr) (cn cc:Nat):Obj:=.cells #[.pointer (some ⟨β,0,none⟩),.int .i64 root,.slice ca cn cc] 95
abbrev lU (v:Value):Obj:=.cells #[v] 221
structure oI (w W:World) (b:Nat) (v:Value) (ns:List NT) (ms:List MN) (Z:Bl):Prop where
 box:W.heap[b]?=some (lU v)
 row:W.ownsRow 0 224 5 v ms.length (aQ ms)
 nds:bS W Z (ns.map nd0) ms
 new:∀ k,v.ownBlock=some k→w.heap.size≤k
 apart:∀ k,Z k→w.heap.size≤k∧k<W.heap.size∧v.ownBlock≠some k∧k≠b
theorem iK.took {w w':World} {S:Bl} {B:Nat} {n:Nd} {m:MN} (h:iK w S n m) (ht:kI B w w'):iK w' S n m:=by
 induction h with
 | mk s place es kids m ms h1 h2 h3 h4 h5 h6 h7 h8 h9 h10 h11 ih=>exact .mk s place es kids m ms h1 h2 h3 h4 h5 h6 h7 (aL.took h8 ht) (aL.took h9 ht) h10 ih
theorem bS.took {w w':World} {S:Bl} {B:Nat} {ns:List Nd}  (h:bS w S ns ms) (ht:kI B w w'):bS w' S ns ms:=⟨h.1,fun i k x a b=>(h.2 i k x a b).took ht⟩
theorem oI.more {w W₃ W₆:World} {b:Nat} {v v':Value} {ns ns':List NT} {ms ms':List MN} {Z Z':Bl} (hA:oI w W₃ b v ns ms Z) (hF:Fr (fun k=>k=b∨v.ownBlock=some k) W₃ W₆) (hbox:W₆.heap[b]?=some (lU v')) (hrow:W₆.ownsRow 0 224 5 v' (ms.length+ms'.length) (aQ ms++aQ ms')) (hv':∀ k,v'.ownBlock=some k→v.ownBlock=some k∨W₃.heap.size≤k) (hnds:bS W₆ Z' (ns'.map nd0) ms') (hZ':∀ k,Z' k→W₃.heap.size≤k∧k<W₆.heap.size∧v'.ownBlock≠some k) (hw:w.heap.size≤W₃.heap.size) :
  oI w W₆ b v' (ns++ns') (ms++ms') (Or2 Z Z'):=by
 have hb:b<W₃.heap.size:=(Array.getElem?_eq_some_iff.1 hA.box).1
 have hs:=hF.size
 refine⟨hbox,by rw [List.length_append,fI];exact hrow,?_,?_,?_⟩
 ·rw [List.map_append]
  refine bS.append ?_ (hnds.mono (fun k hk=>.inr hk))
  exact(hA.nds.on (hF.on (fun k hk=>⟨(hA.apart k hk).2.1,fun e=>by rcases e with e|e;exact(hA.apart k hk).2.2.2 e;exact(hA.apart k hk).2.2.1 e⟩))).mono (fun k hk=>.inl hk)
 ·intro k hk
  rcases hv' k hk with h|h
  ·exact hA.new k h
  ·omega
 ·rintro k (hk|hk)
  ·obtain⟨h1,h2,h3,h4⟩:=hA.apart k hk
   refine⟨h1,by omega,fun e=>?_,h4⟩
   rcases hv' k e with h|h
   ·exact h3 h
   ·omega
  ·obtain⟨h1,h2,h3⟩:=hZ' k hk
   exact⟨by omega,h2,h3,by omega⟩
abbrev eU (t:T) (sp:Sp):MN:=⟨sp.lo,sp.hi,t.place,none,0,0,none,0,0⟩
theorem qQo (w:World) (t:T) (sp:Sp):bS w Bl.none ([NT.kept t sp].map nd0) [eU t sp] :=
 bS.one (.mk sp t.place [] [] (eU t sp) [] rfl rfl rfl rfl rfl (Nat.le_refl _) (Nat.le_refl _) (.inl rfl) (.inl rfl) rfl (fun i k x a _=>by simp at a))
abbrev qAe (w:World) (g k:Nat) (m:MN):World:=((((w.setCell ⟨g,k,none⟩ (.string m.lo)).setCell ⟨g,k+1,none⟩ (.string m.hi)).setCell ⟨g,k+2,none⟩ (.int .i64 m.place)).setCell ⟨g,k+3,none⟩ (.slice m.ea m.en m.ec)).setCell ⟨g,k+4,none⟩ (.slice m.ka m.kn m.kc)
theorem jZ (w:World) (g k:Nat) (m:MN):Fr (Bl.one g) w (qAe w g k m) :=
 (((((Fr.refl (Bl.one g) w).setCell (p:=⟨g,k,none⟩) (.inl rfl) _).setCell (p:=⟨g,k+1,none⟩) (.inl rfl) _).setCell (p:=⟨g,k+2,none⟩) (.inl rfl) _).setCell (p:=⟨g,k+3,none⟩) (.inl rfl) _).setCell (p:=⟨g,k+4,none⟩) (.inl rfl) _
theorem oI.push {w W₃ W₅:World} {b g c:Nat} {v:Value} {ns:List NT}  {Z:Bl} (t:T) (sp:Sp) (hA:oI w W₃ b v ns ms Z) (hw:w.heap.size≤W₃.heap.size) (A:kV 224 5 v ms.length (aQ ms) [.string ⟨#[]⟩,.string ⟨#[]⟩,.int .i64 0,.slice none 0 0,.slice none 0 0] 1 W₃ (.slice (some ⟨g,0,none⟩) (ms.length+1) c) W₅) :
  oI w ((qAe W₅ g (ms.length * 5) (eU t sp)).setCell ⟨b,0,none⟩ (.slice (some ⟨g,0,none⟩) (ms.length+1) c)) b (.slice (some ⟨g,0,none⟩) (ms.length+1) c) (ns++[.kept t sp]) (ms++[eU t sp]) (Or2 Z Bl.none) ∧
  oI w (qAe (W₅.setCell ⟨b,0,none⟩ (.slice (some ⟨g,0,none⟩) (ms.length+1) c)) g (ms.length * 5) (eU t sp)) b (.slice (some ⟨g,0,none⟩) (ms.length+1) c) (ns++[.kept t sp]) (ms++[eU t sp]) (Or2 Z Bl.none) ∧
  Fr (fun k=>k=b∨v.ownBlock=some k) W₃ ((qAe W₅ g (ms.length * 5) (eU t sp)).setCell ⟨b,0,none⟩ (.slice (some ⟨g,0,none⟩) (ms.length+1) c)) ∧
  Fr (fun k=>k=b∨v.ownBlock=some k) W₃ (qAe (W₅.setCell ⟨b,0,none⟩ (.slice (some ⟨g,0,none⟩) (ms.length+1) c)) g (ms.length * 5) (eU t sp)):=by
 have nb:v.ownBlock≠some b:=bD hA.row hA.box (by decide)
 have b5:=A.fr.heap hA.box nb
 have ngb:g≠b:=fun e=>bD A.row b5 (by decide) (by rw [e];rfl)
 have hk5:(aQ ms).length=ms.length * 5:=fH ms
 have F5:Fr (fun k=>k=b∨v.ownBlock=some k) W₃ W₅:=A.fr.mono (fun k hk=>.inl (.inr hk))
 have gY:∀ k,Bl.one g k→(k=b∨v.ownBlock=some k)∨W₃.heap.size≤k:=fun k hk=>by
  simp only [Bl.one] at hk;subst hk
  exact(A.lies k rfl).imp (fun h=>.inr h) id
 have fb:∀ (X:World),Fr (Bl.one b) X (X.setCell ⟨b,0,none⟩ (.slice (some ⟨g,0,none⟩) (ms.length+1) c)):=fun X=>(Fr.refl (Bl.one b) X).setCell (p:=⟨b,0,none⟩) (.inl rfl) _
 have hbY:∀ k,Bl.one b k→(k=b∨v.ownBlock=some k)∨W₃.heap.size≤k:=fun k hk=>.inl (.inl hk)
 have FA:=(F5.grow (jZ W₅ g (ms.length * 5) (eU t sp)) gY).grow (fb _) hbY
 have FB:=(F5.grow (fb W₅) hbY).grow (jZ (W₅.setCell ⟨b,0,none⟩ (.slice (some ⟨g,0,none⟩) (ms.length+1) c)) g (ms.length * 5) (eU t sp)) gY
 have hcell1:aQ [eU t sp]=(eU t sp).cells:=by simp [aQ]
 refine⟨?_,?_,FA,FB⟩
 ·have r1:=qJf A.row (ms.length * 5) hk5 (eU t sp)
  have bA:=(jZ W₅ g (ms.length * 5) (eU t sp)).heap b5 (fun e=>ngb (by simp only [Bl.one] at e;exact e.symm))
  have bB:=aI bA 0 (.slice (some ⟨g,0,none⟩) (ms.length+1) c)
  refine hA.more FA (by simpa using bB) ?_ A.lies (qQo _ t sp) (fun k hk=>hk.elim) hw
  rw [hcell1]
  exact eD r1 (fb _) (fun k hk e=>by simp only [Bl.one] at e;subst e;exact ngb (by simpa [Value.ownBlock] using hk))
 ·have r1:=eD A.row (fb W₅) (fun k hk e=>by simp only [Bl.one] at e;subst e;exact ngb (by simpa [Value.ownBlock] using hk))
  have r2:=qJf r1 (ms.length * 5) hk5 (eU t sp)
  have bB:=aI b5 0 (.slice (some ⟨g,0,none⟩) (ms.length+1) c)
  have bC:=(jZ (W₅.setCell ⟨b,0,none⟩ (.slice (some ⟨g,0,none⟩) (ms.length+1) c)) g (ms.length * 5) (eU t sp)).heap bB (fun e=>ngb (by simp only [Bl.one] at e;exact e.symm))
  refine hA.more FB (by simpa using bC) ?_ A.lies (qQo _ t sp) (fun k hk=>hk.elim) hw
  rw [hcell1]
  exact r2
theorem qCf (β:Nat) (sv lv:Value) (fs:Fs) (hl:(fs.life==0)=false) (root:Int) (ca:Option Addr) (cn cc:Nat) (p:Nat) (s:Sp) (ks:List ByteArray) (kids:List T) (cs:List Ch) (xa:Option Addr) (xc:Nat) (S:Bl) (w:World) (ht:aX fs 1 (.branch p ks kids) s) (hf:aH w β sv lv fs) (hR:aL w S xa (cs.flatMap Ch.cells)) (hS:∀ b,S b→b<w.heap.size) (hr:cI cs) (hgd:∀ c∈cs,c.good) (hn:cs.length≤1000) (hc:cs.length≤xc) (hxa:(xa=none∧xc=0)∨∃ b off,xa=some ⟨b,off,none⟩)
  (hpl:∀ x∈parts s ks kids,0<x.1.place) (hon:∀ x∈parts s ks kids,∀ q es,x.1=.leaf q es→(bK es (eF cs x.2)).length≤100000) (hJ:qYd fs ((parts s ks kids).flatMap (fun x=>eT x cs))) :
  Calls Tryz.prog 164 #[.agg #[.pointer (some ⟨β,0,none⟩),.int .i64 root,.slice ca cn cc],.int .i64 p,.agg #[.string s.lo,.string s.hi],.slice xa cs.length xc] w fun e w' =>
   ∃ v ms,e=.returned v∧w'.ownsRow 0 224 5 v ms.length (aQ ms)∧bS w' (New w w') ((dZ rX ((kD eB ((parts s ks kids).flatMap (fun x=>eT x cs))).map nd0)).map iB) ms∧Below w.heap.size w w'∧∀ k,v.ownBlock=some k→w.heap.size≤k:=by
 obtain⟨g,hg,hk2,hks,hkd,hlen,⟨h0,c1,c2⟩,hall⟩:=ht
 obtain⟨W1,hW1⟩:=nM (((w.alloc (kK β root ca cn cc)).alloc (qDz s)).alloc (.cells #[.slice xa cs.length xc] 93))
 have B1:Below w.heap.size w W1:=hW1▸(((Below.refl _ _).alloc (Nat.le_refl _) _).alloc (by simp) _).alloc (by simp;omega) _
 have t1:W1.heap[w.heap.size]?=some (kK β root ca cn cc):=hW1▸aF _ (aF _ (aB w _))
 have s1:W1.heap[w.heap.size+1]?=some (qDz s):=by
  rw [← hW1];refine aF _ ?_;have:=aB (w.alloc (kK β root ca cn cc)) (qDz s);simpa using this
 have b1:W1.heap[w.heap.size+1+1]?=some (.cells #[.slice xa cs.length xc] 93):=by
  rw [← hW1];have:=aB ((w.alloc (kK β root ca cn cc)).alloc (qDz s)) (.cells #[.slice xa cs.length xc] 93);simpa using this
 have z1:W1.heap.size=w.heap.size+3:=by rw [← hW1];simp
 obtain⟨tc0,tc1,tc2⟩:=dM t1
 obtain⟨sc0,sc1⟩:=bQ s1
 have hf1:aH W1 β sv lv fs:=hf.on (On.of_below B1 hf.lies)
 obtain⟨sm1,sm2,sm3⟩:=fU hg
 have hNd:=mN β sv lv fs root ca cn cc p s g W1 hf1 hl hg (by simp [hk2]) (by rw [hks];exact h0) (by simp only [hks];exact c1) (by simp only [hks];exact c2) sm1 sm3
 have HKS:Hid (g.keys=ks):=hks
 have HKD:Hid (g.kids=kids.map (fun t=>(t.place:Int))):=hkd
 have HLN:Hid (kids.length=ks.length+1):=hlen
 have HZ1:Hid (W1.heap.size=w.heap.size+3):=z1
 have hkb:(g.kind==3)=false:=by rw [hk2];rfl
 clear hk2 hks hkd hlen z1
 refine(callsIn_wide (n:=0)).1 (callsIn_of_wp_marks Tryz.func164 rfl trivial ?_ rfl)
 simp only [Tryz.ntmps164,List.size_toArray,List.length_cons,List.length_nil,Nat.reduceAdd,Nat.reduceSub,Array.replicate_succ,Array.replicate_zero,List.push_toArray,List.append_toArray,List.nil_append,List.cons_append]
 gi_wp2_with (first
  | (refine⟨trivial,rfl,?_⟩;gi_at_call 117;refine(callsIn_wide.2 hNd).mono ?_;clear hNd;rintro e W3 ⟨vv,rfl,⟨ka,ia,ea,kc,ic,ec,rfl,q1,q2,q3,qq⟩,hb3⟩;obtain⟨W4,hW4⟩:=nM (W3.alloc (pgO g ka ia ea kc ic ec));have x4:W4.heap[W3.heap.size]?=some (pgO g ka ia ea kc ic ec):=hW4▸aB W3 _;obtain⟨m0,m1,m2,m3,m4,m5,m6,m7⟩:=bH x4;have f4:Fr Bl.none W1 W4:=(Fr.of_below hb3).trans (hW4▸(Fr.refl _ W3).alloc _);have s4:=f4.heap s1 (fun h=>h);have s5:=aF (lU (.slice none 0 0)) s4;obtain⟨sd0,sd1⟩:=bQ s5;have x5:=aF (lU (.slice none 0 0)) x4;obtain⟨me0,me1,me2,me3,me4,me5,me6,me7⟩:=bH x5;have hKc:=jS g s ka ia ea kc ic ec (W4.alloc (lU (.slice none 0 0))))
  | (refine⟨trivial,rfl,?_⟩;gi_at_call 118;refine(callsIn_wide.2 hKc).mono ?_;clear hKc;rintro e W6 ⟨rfl,y1,y2,hb6⟩))
 clear sd0 sd1 me0 me1 me2 me3 me4 me5 me6 me7 m0 m1 m2 m3 m4 m5 m6 m7
 obtain⟨W5,hW5⟩:=nM (W4.alloc (lU (.slice none 0 0)))
 rw [hW5] at y1 y2 hb6 s5 x5
 have n5:W5.heap[W4.heap.size]?=some (lU (.slice none 0 0)):=hW5▸aB W4 _
 have z55:W5.heap.size=W4.heap.size+1:=by rw [← hW5];simp
 rw [z55] at y1 y2
 have f5:Fr Bl.none W1 W5:=f4.trans (hW5▸(Fr.refl _ W4).alloc _)
 have f6:Fr Bl.none W1 W6:=f5.trans (Fr.of_below hb6)
 have z3:=hb3.size
 have z4:W3.heap.size<W4.heap.size:=(Array.getElem?_eq_some_iff.1 x4).1
 have z6:W4.heap.size+1+1<W6.heap.size:=(Array.getElem?_eq_some_iff.1 y2).1
 have n6:=(hb6.block _ (by omega)).trans n5
 have t6:=f6.heap t1 (fun h=>h)
 have b6:=f6.heap b1 (fun h=>h)
 have F6:Fr Bl.none w W6:=(Fr.of_below B1).trans f6
 have hf6:aH W6 β sv lv fs:=hf.on (F6.on (fun k hk=>⟨hf.lies k hk,fun h=>h⟩))
 have zw:=HZ1.out
 have o36:On (New W1 W3) W3 W6:=((hW4▸(On.refl _ W3).alloc (fun k hk=>hk.2) _:On (New W1 W3) W3 W4).trans (hW5▸(On.refl _ W4).alloc (fun k hk=>by have:=hk.2;omega) _:On (New W1 W3) W4 W5)).trans (On.of_below hb6 (fun k hk=>by have:=hk.2;omega))
 let Rd:Bl:=fun k=>k=W4.heap.size+1∨k=W4.heap.size+1+1∨New W1 W3 k
 have hseq:=lB (W4.heap.size+1+1) (W4.heap.size+1) s g.kind g.ver g.root g.next ka ia ea kc ic g.ents.length ec g.data g.keys g.kids Rd W6 y2 y1 ((q1.on o36).mono (fun k hk=>.inr (.inr hk))) ((q2.on o36).mono (fun k hk=>.inr (.inr hk))) (.inr (.inl rfl)) (.inl rfl) sm1 sm2 qq.1 qq.2.1
 have hxs:parts s g.keys g.kids=(parts s ks kids).map (fun x=>((x.1.place:Int),x.2)):=by rw [HKS.out,HKD.out,kX]
 have HXS:Hid (parts s g.keys g.kids=(parts s ks kids).map (fun x=>((x.1.place:Int),x.2))):=hxs
 clear hxs q1 q2 q3 qq o36
 let NA:=W4.heap.size
 let I:List (Int×Sp)→Bl→World→Prop:=fun pre Y W=>∃ v ms Z,oI w W NA v (kO s ks kids cs pre.length) ms Z∧(∀ k,Y k↔k=NA∨v.ownBlock=some k∨Z k)
 refine eO (P:=Tryz.prog) (Has:=jV) (Rd:=Rd) rfl (enters_of Tryz.func140 (by kernel_rfl) rfl) hseq (fun x args S W hH=>by rw [hH];rfl) I (fun _ _ _ _=>False) ?_ (fun _ _ _ _ _ h=>h.elim) ?_ (fun _ _ _ _ h=>h.elim) (Bl.one NA) ⟨.slice none 0 0,[],Bl.none,⟨n6,by simpa [aQ] using World.ownsRow_nil _ _ _ _,by simpa [kO] using bS.nil _ _,by simp [Value.ownBlock],fun k hk=>hk.elim⟩,fun k=>by simp [Bl.one,Bl.none,Value.ownBlock]⟩ ?_ ?_ ?_ (fun _ _ _ _ _ _ _ _ _ h=>h.elim)
 ·rintro pre Y A B ⟨v,ms,Z,⟨h1,h2,h3,h4,h5⟩,h6⟩ ho
  exact⟨v,ms,Z,⟨ho.heap h1 ((h6 _).2 (.inl rfl)),bN h2 ho (fun k hk=>(h6 k).2 (.inr (.inl hk))),h3.on (ho.mono (fun k hk=>(h6 k).2 (.inr (.inr hk)))),h4,fun k hk=>⟨(h5 k hk).1,Nat.lt_of_lt_of_le (h5 k hk).2.1 ho.size,(h5 k hk).2.2⟩⟩,h6⟩
 ·rintro pre Y A ⟨v,ms,Z,⟨h1,h2,h3,h4,h5⟩,h6⟩ k hk
  rcases (h6 k).1 hk with rfl|h|h
  ·exact(Array.getElem?_eq_some_iff.1 h1).1
  ·exact bI h2 h
  ·exact(h5 k h).2.1
 ·rintro k (rfl|rfl|hk)
  ·exact⟨fun h=>by simp only [Bl.one,NA] at h;omega,by omega⟩
  ·exact⟨fun h=>by simp only [Bl.one,NA] at h;omega,by omega⟩
  ·exact⟨fun h=>by simp only [Bl.one,NA] at h;have:=hk.2;omega,by have:=hk.2;omega⟩
 ·-- a round
  rintro l pre x rest args SS Y' W hx ⟨v,ms,Z,hA,hY⟩ hH hSS hFW hGW hl0 hl1 hl2 ⟨r,hrr⟩
  have hjl:pre.length<kids.length:=by
   have:=congrArg List.length hx
   rw [HXS.out] at this
   simp [dD] at this
   omega
  obtain⟨kid,hkid⟩:=nM (kids[pre.length]'hjl)
  obtain⟨sp,hsp⟩:=nM ((⟨iW s ks pre.length,iI s ks pre.length⟩:Sp))
  have hpa:=fO s ks kids pre.length hjl
  rw [hkid,hsp] at hpa
  have hxe:x=((kid.place:Int),sp):=by
   have h1:(parts s g.keys g.kids)[pre.length]?=some x:=by rw [hx];simp
   rw [HXS.out,List.getElem?_map,hpa] at h1
   simpa using h1.symm
  have hpm:=List.mem_of_getElem? hpa
  have hst:aX fs 0 kid sp:=hall _ hpm
  have hpp:0<kid.place:=hpl _ hpm
  have HFS:Hid (kO s ks kids cs (pre.length+1)=kO s ks kids cs pre.length++eT (kid,sp) cs):=qOr s ks kids cs pre.length (kid,sp) hpa
  have hfle:=qKs s ks kids cs pre.length
  have hfle2:=qKs s ks kids cs (pre.length+1)
  have hJl:=hJ.len
  subst hxe
  have hH':args=#[.int .i64 kid.place,.agg #[.string sp.lo,.string sp.hi]]:=hH
  subst hH'
  have zW:W6.heap.size≤W.heap.size:=hFW.size
  have tW:=hFW.heap t6 (fun h=>by simp only [Bl.one,NA] at h;omega)
  have bW:=hFW.heap b6 (fun h=>by simp only [Bl.one,NA] at h;omega)
  have FW0:Fr (Bl.one NA) w W:=(F6.mono (fun _ h=>h.elim)).trans hFW
  have nNA:∀ k,k<w.heap.size→¬ Bl.one NA k:=fun k hk e=>by simp only [Bl.one,NA] at e;omega
  have hfW:aH W β sv lv fs:=hf.on (FW0.on (fun k hk=>⟨hf.lies k hk,nNA k (hf.lies k hk)⟩))
  have hRW:aL W S xa (cs.flatMap Ch.cells):=hR.on (FW0.on (fun k hk=>⟨hS k hk,nNA k (hS k hk)⟩))
  have lY:∀ k,Y' k→k<W.heap.size:=by
   intro k hk
   rcases (hY k).1 hk with rfl|h|h
   ·exact(Array.getElem?_eq_some_iff.1 hA.box).1
   ·exact bI hA.row h
   ·exact(hA.apart k h).2.1
  clear hkid hsp hpa hx
  unfold gL
  gi_wp2
  refine⟨(Fr.refl _ W).alloc _,?_⟩
  intro W₂ hT
  have aW:Fr Bl.none W (W.alloc (qDz sp)):=(Fr.refl _ W).alloc _
  have x2:=hT.heap (aB W (qDz sp)) (by omega)
  have tX:=hT.heap (aW.heap tW (fun h=>h)) (by omega)
  have bX:=hT.heap (aW.heap bW (fun h=>h)) (by omega)
  have fX:Fr (Bl.one l) W W₂:=(aW.mono (fun _ h=>h.elim)).trans hT.fr
  have z2:=fX.size
  have z22:W.heap.size<W₂.heap.size:=(Array.getElem?_eq_some_iff.1 x2).1
  have nl:∀ k,k<w.heap.size→¬ Bl.one l k:=fun k hk e=>by simp only [Bl.one] at e;omega
  have hfX:aH W₂ β sv lv fs:=hfW.on (fX.on (fun k hk=>⟨hfW.lies k hk,nl k (hf.lies k hk)⟩))
  have hRX:aL W₂ S xa (cs.flatMap Ch.cells):=hRW.on (fX.on (fun k hk=>⟨by have:=hS k hk;have:=FW0.size;omega,nl k (hS k hk)⟩))
  have oY:On Y' W W₂:=fX.on (fun k hk=>⟨lY k hk,fun e=>by simp only [Bl.one] at e;subst e;exact hl2 hk⟩)
  have hA2:oI w W₂ NA v (kO s ks kids cs pre.length) ms Z:=⟨oY.heap hA.box ((hY _).2 (.inl rfl)),bN hA.row oY (fun k hk=>(hY k).2 (.inr (.inl hk))),hA.nds.on (oY.mono (fun k hk=>(hY k).2 (.inr (.inr hk)))),hA.new,fun k hk=>⟨(hA.apart k hk).1,by have:=(hA.apart k hk).2.1;omega,(hA.apart k hk).2.2⟩⟩
  obtain⟨d0,d1,d2⟩:=dM tX
  obtain⟨e0,e1⟩:=bQ x2
  have cX:=dE bX
  have hWi:=zN xa xc cs sp S W₂ hRX (fun k hk=>by have:=hS k hk;have:=FW0.size;omega) hr (by omega) hc hxa
  obtain⟨own,how⟩:=nM (eF cs sp)
  rw [how] at hWi
  have hSw2:∀ k,S k→k<W₂.heap.size:=fun k hk=>by have:=hS k hk;have:=FW0.size;omega
  by_cases hz:own.length=0
  ·gi_wp2_with (refine⟨trivial,rfl,?_⟩;gi_at_call 137;refine(CallsIn.inRound l (callsIn_wide.2 hWi)).mono ?_;clear hWi;rintro e W₃ ⟨oa,oc,rfl,hcut,hb₃⟩)
   have z33:=hb₃.size
   have x3:=(hb₃.block _ z22).trans x2
   obtain⟨g0,g1⟩:=bQ x3
   have hA3:oI w W₃ NA v (kO s ks kids cs pre.length) ms Z:=⟨(hb₃.block _ (Array.getElem?_eq_some_iff.1 hA2.box).1).trans hA2.box,bN hA2.row (On.of_below hb₃ (Y:=fun k=>v.ownBlock=some k) (fun k hk=>bI hA2.row hk)) (fun k hk=>hk),hA2.nds.on (On.of_below hb₃ (fun k hk=>(hA2.apart k hk).2.1)),hA2.new,fun k hk=>⟨(hA2.apart k hk).1,by have:=(hA2.apart k hk).2.1;omega,(hA2.apart k hk).2.2⟩⟩
   refine iZ (S:=fun X=>X.cell? ⟨W.heap.size,0,none⟩=some (.string sp.lo)∧X.cell? ⟨W.heap.size,1,none⟩=some (.string sp.hi)) (by kernel_rfl) (by kernel_rfl) (fun _ _ h=>h) ⟨g0,g1⟩ (fun hHeld=>?_)
   refine wpAnyH_take (i:=1) (v:=.agg #[.string sp.lo,.string sp.hi]) rfl (by kernel_rfl) (by kernel_rfl) (by kernel_rfl) (fun _ _ _ h=>h) (Or.inl ⟨by rfl,fun w hSw=>by(try dsimp only at hSw);go_simp⟩) (by assumption) ?_
   simp only [Act.put,List.setIfInBounds_toArray,List.set_cons_zero,List.set_cons_succ]
   refine wpAnyH_take (i:=2) (v:=.int .i64 kid.place) rfl (by kernel_rfl) (by kernel_rfl) (by kernel_rfl) (fun _ _ _ h=>h) (Or.inl ⟨by rfl,fun w hSw=>by(try dsimp only at hSw);go_simp⟩) (by assumption) ?_
   simp only [Act.put,List.setIfInBounds_toArray,List.set_cons_zero,List.set_cons_succ]
   refine wpAnyH_take (i:=3) (v:=.agg #[.string sp.lo,.string sp.hi,.int .i64 kid.place,.slice none 0 0,.slice none 0 0]) rfl (by kernel_rfl) (by kernel_rfl) (by kernel_rfl) (fun _ _ _ h=>h) (Or.inl ⟨by rfl,fun w hSw=>by(try dsimp only at hSw);go_simp⟩) (by assumption) ?_
   simp only [Act.put,List.setIfInBounds_toArray,List.set_cons_zero,List.set_cons_succ]
   have hml:ms.length≤100000:=by have:=hA3.nds.1;rw [List.length_map] at this;omega
   obtain⟨va,vc,rfl⟩:=aT hA3.row
   have HKP:Hid (eT (kid,sp) cs=[.kept kid sp]):=by
    show _=_
    unfold eT
    cases kid with
    | leaf q es=>simp only [how,hz,if_true]
    | branch=>rfl
   have HLP:Hid (∀ Wf v' ms' Z',oI w Wf NA v' (kO s ks kids cs pre.length++[.kept kid sp]) ms' (Or2 Z Z')→Fr (fun k=>k=NA∨(Value.slice va ms.length vc).ownBlock=some k) W₃ Wf→(∀ k,v'.ownBlock=some k→(Value.slice va ms.length vc).ownBlock=some k∨W₃.heap.size≤k)→(∀ k,Z' k→W₃.heap.size≤k)→∃ Y'',I (pre++[((kid.place:Int),sp)]) Y'' Wf∧Fr Y' W₂ Wf∧aK W₂ Y' Y''):=by
    intro Wf v' ms' Z' hAf hFf hvf hZf
    refine⟨fun k=>k=NA∨v'.ownBlock=some k∨Or2 Z Z' k,⟨v',ms',Or2 Z Z',?_,fun k=>Iff.rfl⟩,(Fr.of_below hb₃).trans (hFf.mono (fun k hk=>.inl ((hY k).2 (by rcases hk with hk|hk;exact .inl hk;exact .inr (.inl hk))))),?_⟩
    ·rw [List.length_append,List.length_singleton,HFS.out,HKP.out];exact hAf
    ·rintro k (hk|hk|hk|hk)
     ·exact .inl ((hY k).2 (.inl hk))
     ·exact(hvf k hk).imp (fun h=>(hY k).2 (.inr (.inl h))) (fun h=>by omega)
     ·exact .inl ((hY k).2 (.inr (.inr hk)))
     ·exact .inr (by have:=hZf k hk;omega)
   have cA:W₃.cell? ⟨W4.heap.size,0,none⟩=some (.slice va ms.length vc):=dE hA3.box
   have nA3:W4.heap.size<W₃.heap.size:=(Array.getElem?_eq_some_iff.1 hA3.box).1
   have x3A:=aF (.cells #[.string ⟨#[]⟩,.string ⟨#[]⟩,.int .i64 0,.slice none 0 0,.slice none 0 0] 224) x3
   obtain⟨gA0,gA1⟩:=bQ x3A
   have cA':(W₃.alloc (.cells #[.string ⟨#[]⟩,.string ⟨#[]⟩,.int .i64 0,.slice none 0 0,.slice none 0 0] 224)).cell? ⟨W4.heap.size,0,none⟩=some (.slice va ms.length vc):=dE (aF _ hA3.box)
   refine wpAnyH_ready (rs:=[0,5]) (by kernel_rfl) (by simp) (AllReadyH.cons rfl (fun K hK=>?_) (AllReadyH.cons rfl (fun K hK=>?_) AllReadyH.nil))
   ·go_simp
    refine hK.out _ _ ⟨g0,g1⟩ (fun hHeld=>?_)
    clear hK K
    try simp only [Act.put,List.setIfInBounds_toArray,List.set_cons_zero,List.set_cons_succ]
    refine wpAnyH_take (i:=4) (v:=.int .i64 ms.length) rfl (by kernel_rfl) (by kernel_rfl) (by kernel_rfl) (fun _ _ _ h=>h) (Or.inl ⟨by rfl,fun w hSw=>by(try dsimp only at hSw);go_simp⟩) (by assumption) ?_
    simp only [Act.put,List.setIfInBounds_toArray,List.set_cons_zero,List.set_cons_succ]
    refine wpAnyH_ready (rs:=[5]) (by kernel_rfl) (by simp) (AllReadyH.cons rfl (fun K hK=>?_) AllReadyH.nil)
    go_simp
    refine hK.out _ _ ⟨gA0,gA1⟩ (fun hHeld=>?_)
    clear hK K
    try simp only [Act.put,List.setIfInBounds_toArray,List.set_cons_zero,List.set_cons_succ]
    refine wpAnyH_ready (rs:=[6]) (by kernel_rfl) (by simp) (AllReadyH.cons rfl (fun K hK=>?_) AllReadyH.nil)
    refine jP W₃.drew rfl (.tmp 39) (.tmp 44) 221 224 _ 5 88 rfl Tryz.underlying221 iH rfl (by decide) (.slice va ms.length vc) ms.length (aQ ms) (by simp [Act.eval,Act.put]) hA3.row [.string ⟨#[]⟩,.string ⟨#[]⟩,.int .i64 0,.slice none 0 0,.slice none 0 0] (by simp [Act.eval,Act.put]) rfl (by simp [Value.oneCell']) (by omega) (by omega) ?_
    intro v5 W₅ A5
    obtain⟨g5,k5,rfl⟩:=A5.shape (by decide)
    have A6:kV 224 5 (.slice va ms.length vc) ms.length (aQ ms) [.string ⟨#[]⟩,.string ⟨#[]⟩,.int .i64 0,.slice none 0 0,.slice none 0 0] 1 W₃ (.slice (some ⟨g5,0,none⟩) (ms.length+1) k5) W₅:=⟨A5.row,(Fr.refl _ W₃).drew.trans A5.fr,A5.lies⟩
    obtain⟨hP1,hP2,hP3,hP4⟩:=hA3.push kid sp (by have:=FW0.size;omega) A6
    have x5:=A6.fr.heap x3 (bD hA3.row x3 (by decide))
    obtain⟨h50,h51⟩:=bQ x5
    have b5:W₅.heap[W4.heap.size]?=some (lU (.slice va ms.length vc)):=A6.fr.heap hA3.box (bD hA3.row hA3.box (by decide))
    have ng5:g5≠W4.heap.size:=fun e=>bD A6.row b5 (by decide) (by rw [e];rfl)
    have ng6:g5≠W.heap.size:=fun e=>bD A6.row x5 (by decide) (by rw [e];rfl)
    have cN:=dE b5
    have fN:=aJ b5
    have b50:=aI b5 0 (.slice (some ⟨g5,0,none⟩) (ms.length+1) k5)
    have f50:Fr (Bl.one W4.heap.size) W₅ (W₅.setCell ⟨W4.heap.size,0,none⟩ (.slice (some ⟨g5,0,none⟩) (ms.length+1) k5)):=(Fr.refl (Bl.one W4.heap.size) W₅).setCell (p:=⟨W4.heap.size,0,none⟩) (.inl rfl) _
    obtain⟨hN0,hN1⟩:=bQ (f50.heap x5 (oN (by omega)))
    have q0:=bM A6.row (ms.length * 5) (by omega)
    have q1:=bM A6.row (ms.length * 5+1) (by omega)
    have q2:=bM A6.row (ms.length * 5+2) (by omega)
    have q3:=bM A6.row (ms.length * 5+3) (by omega)
    have q4:=bM A6.row (ms.length * 5+4) (by omega)
    obtain⟨u0,hu0⟩:=Option.isSome_iff_exists.1 q0.1
    obtain⟨u1,hu1⟩:=Option.isSome_iff_exists.1 q1.1
    obtain⟨u2,hu2⟩:=Option.isSome_iff_exists.1 q2.1
    obtain⟨u3,hu3⟩:=Option.isSome_iff_exists.1 q3.1
    obtain⟨u4,hu4⟩:=Option.isSome_iff_exists.1 q4.1
    have fz0:=q0.2
    have fz1:=q1.2
    have fz2:=q2.2
    have fz3:=q3.2
    have fz4:=q4.2
    have r50:=eD A6.row f50 (fun k hk e=>by simp only [Bl.one] at e;subst e;exact ng5 (by simpa [Value.ownBlock] using hk))
    have q0':=bM r50 (ms.length * 5) (by omega)
    have q1':=bM r50 (ms.length * 5+1) (by omega)
    have q2':=bM r50 (ms.length * 5+2) (by omega)
    have q3':=bM r50 (ms.length * 5+3) (by omega)
    have q4':=bM r50 (ms.length * 5+4) (by omega)
    obtain⟨u0',hu0'⟩:=Option.isSome_iff_exists.1 q0'.1
    obtain⟨u1',hu1'⟩:=Option.isSome_iff_exists.1 q1'.1
    obtain⟨u2',hu2'⟩:=Option.isSome_iff_exists.1 q2'.1
    obtain⟨u3',hu3'⟩:=Option.isSome_iff_exists.1 q3'.1
    obtain⟨u4',hu4'⟩:=Option.isSome_iff_exists.1 q4'.1
    have fz0':=q0'.2
    have fz1':=q1'.2
    have fz2':=q2'.2
    have fz3':=q3'.2
    have fz4':=q4'.2
    clear q0 q1 q2 q3 q4 q0' q1' q2' q3' q4'
    have s50:=jZ W₅ g5 (ms.length * 5) (eU kid sp)
    have b51:=s50.heap b5 (fun e=>ng5 (by simp only [Bl.one] at e;exact e.symm))
    have cN1:=dE b51
    have fN1:=aJ b51
    obtain⟨h60,h61⟩:=bQ (s50.heap x5 (fun e=>ng6 (by simp only [Bl.one] at e;exact e.symm)))
    have hix:(ms.length:Int)<(ms.length:Int)+1:=by omega
    obtain⟨k60,k61⟩:=bQ (((Fr.refl (Bl.one W4.heap.size) (qAe W₅ g5 (ms.length * 5) (eU kid sp))).setCell (p:=⟨W4.heap.size,0,none⟩) (.inl rfl) (.slice (some ⟨g5,0,none⟩) (ms.length+1) k5)).heap (s50.heap x5 (fun e=>ng6 (by simp only [Bl.one] at e;exact e.symm))) (oN (by omega)))
    obtain⟨k70,k71⟩:=bQ ((jZ (W₅.setCell ⟨W4.heap.size,0,none⟩ (.slice (some ⟨g5,0,none⟩) (ms.length+1) k5)) g5 (ms.length * 5) (eU kid sp)).heap (f50.heap x5 (oN (by omega))) (fun e=>ng6 (by simp only [Bl.one] at e;exact e.symm)))
    refine hK.out _ _ ⟨h50,h51⟩ (fun hHeld=>?_)
    clear hK K
    try simp only [Act.put,List.setIfInBounds_toArray,List.set_cons_zero,List.set_cons_succ]
    refine wpAnyH_take (i:=7) (v:=.pointer (some ⟨g5,ms.length * 5,none⟩)) rfl (by kernel_rfl) (by kernel_rfl) (by kernel_rfl) (fun _ _ _ h=>h) (Or.inl ⟨by rfl,fun w hSw=>by(try dsimp only at hSw);go_simp⟩) (by assumption) ?_
    try simp only [Act.put,List.setIfInBounds_toArray,List.set_cons_zero,List.set_cons_succ]
    refine wpAnyH_ready (rs:=[8,9]) (by kernel_rfl) (by simp) (AllReadyH.cons rfl (fun K hK=>?_) (AllReadyH.cons rfl (fun K hK=>?_) AllReadyH.nil))
    ·go_simp
     refine hK.out _ _ ⟨h60,h61⟩ (fun hHeld=>?_)
     clear hK K
     try simp only [Act.put,List.setIfInBounds_toArray,List.set_cons_zero,List.set_cons_succ]
     refine wpAnyH_ready (rs:=[9]) (by kernel_rfl) (by simp) (AllReadyH.cons rfl (fun K hK=>?_) AllReadyH.nil)
     go_simp
     refine hK.out _ _ ⟨k60,k61⟩ (fun hHeld=>?_)
     clear hK K
     refine wpAnyH_done (by kernel_rfl) ?_ _
     have HLQ:=HLP.out _ _ _ _ hP1 hP3 A6.lies (fun k hk=>hk.elim)
     gi_wp2
     exact HLQ
    ·go_simp
     refine hK.out _ _ ⟨hN0,hN1⟩ (fun hHeld=>?_)
     clear hK K
     try simp only [Act.put,List.setIfInBounds_toArray,List.set_cons_zero,List.set_cons_succ]
     refine wpAnyH_ready (rs:=[8]) (by kernel_rfl) (by simp) (AllReadyH.cons rfl (fun K hK=>?_) AllReadyH.nil)
     go_simp
     refine hK.out _ _ ⟨k70,k71⟩ (fun hHeld=>?_)
     clear hK K
     refine wpAnyH_done (by kernel_rfl) ?_ _
     have HLQ:=HLP.out _ _ _ _ hP2 hP4 A6.lies (fun k hk=>hk.elim)
     gi_wp2
     exact HLQ
   ·go_simp
    refine hK.out _ _ ⟨gA0,gA1⟩ (fun hHeld=>?_)
    clear hK K
    try simp only [Act.put,List.setIfInBounds_toArray,List.set_cons_zero,List.set_cons_succ]
    refine wpAnyH_ready (rs:=[0]) (by kernel_rfl) (by simp) (AllReadyH.cons rfl (fun K hK=>?_) AllReadyH.nil)
    go_simp
    refine hK.out _ _ ⟨gA0,gA1⟩ (fun hHeld=>?_)
    clear hK K
    try simp only [Act.put,List.setIfInBounds_toArray,List.set_cons_zero,List.set_cons_succ]
    refine wpAnyH_take (i:=4) (v:=.int .i64 ms.length) rfl (by kernel_rfl) (by kernel_rfl) (by kernel_rfl) (fun _ _ _ h=>h) (Or.inl ⟨by rfl,fun w hSw=>by(try dsimp only at hSw);go_simp⟩) (by assumption) ?_
    simp only [Act.put,List.setIfInBounds_toArray,List.set_cons_zero,List.set_cons_succ]
    refine wpAnyH_ready (rs:=[6]) (by kernel_rfl) (by simp) (AllReadyH.cons rfl (fun K hK=>?_) AllReadyH.nil)
    refine jP W₃.drew rfl (.tmp 39) (.tmp 44) 221 224 _ 5 88 rfl Tryz.underlying221 iH rfl (by decide) (.slice va ms.length vc) ms.length (aQ ms) (by simp [Act.eval,Act.put]) hA3.row [.string ⟨#[]⟩,.string ⟨#[]⟩,.int .i64 0,.slice none 0 0,.slice none 0 0] (by simp [Act.eval,Act.put]) rfl (by simp [Value.oneCell']) (by omega) (by omega) ?_
    intro v5 W₅ A5
    obtain⟨g5,k5,rfl⟩:=A5.shape (by decide)
    have A6:kV 224 5 (.slice va ms.length vc) ms.length (aQ ms) [.string ⟨#[]⟩,.string ⟨#[]⟩,.int .i64 0,.slice none 0 0,.slice none 0 0] 1 W₃ (.slice (some ⟨g5,0,none⟩) (ms.length+1) k5) W₅:=⟨A5.row,(Fr.refl _ W₃).drew.trans A5.fr,A5.lies⟩
    obtain⟨hP1,hP2,hP3,hP4⟩:=hA3.push kid sp (by have:=FW0.size;omega) A6
    have x5:=A6.fr.heap x3 (bD hA3.row x3 (by decide))
    obtain⟨h50,h51⟩:=bQ x5
    have b5:W₅.heap[W4.heap.size]?=some (lU (.slice va ms.length vc)):=A6.fr.heap hA3.box (bD hA3.row hA3.box (by decide))
    have ng5:g5≠W4.heap.size:=fun e=>bD A6.row b5 (by decide) (by rw [e];rfl)
    have ng6:g5≠W.heap.size:=fun e=>bD A6.row x5 (by decide) (by rw [e];rfl)
    have cN:=dE b5
    have fN:=aJ b5
    have b50:=aI b5 0 (.slice (some ⟨g5,0,none⟩) (ms.length+1) k5)
    have f50:Fr (Bl.one W4.heap.size) W₅ (W₅.setCell ⟨W4.heap.size,0,none⟩ (.slice (some ⟨g5,0,none⟩) (ms.length+1) k5)):=(Fr.refl (Bl.one W4.heap.size) W₅).setCell (p:=⟨W4.heap.size,0,none⟩) (.inl rfl) _
    obtain⟨hN0,hN1⟩:=bQ (f50.heap x5 (oN (by omega)))
    have q0:=bM A6.row (ms.length * 5) (by omega)
    have q1:=bM A6.row (ms.length * 5+1) (by omega)
    have q2:=bM A6.row (ms.length * 5+2) (by omega)
    have q3:=bM A6.row (ms.length * 5+3) (by omega)
    have q4:=bM A6.row (ms.length * 5+4) (by omega)
    obtain⟨u0,hu0⟩:=Option.isSome_iff_exists.1 q0.1
    obtain⟨u1,hu1⟩:=Option.isSome_iff_exists.1 q1.1
    obtain⟨u2,hu2⟩:=Option.isSome_iff_exists.1 q2.1
    obtain⟨u3,hu3⟩:=Option.isSome_iff_exists.1 q3.1
    obtain⟨u4,hu4⟩:=Option.isSome_iff_exists.1 q4.1
    have fz0:=q0.2
    have fz1:=q1.2
    have fz2:=q2.2
    have fz3:=q3.2
    have fz4:=q4.2
    have r50:=eD A6.row f50 (fun k hk e=>by simp only [Bl.one] at e;subst e;exact ng5 (by simpa [Value.ownBlock] using hk))
    have q0':=bM r50 (ms.length * 5) (by omega)
    have q1':=bM r50 (ms.length * 5+1) (by omega)
    have q2':=bM r50 (ms.length * 5+2) (by omega)
    have q3':=bM r50 (ms.length * 5+3) (by omega)
    have q4':=bM r50 (ms.length * 5+4) (by omega)
    obtain⟨u0',hu0'⟩:=Option.isSome_iff_exists.1 q0'.1
    obtain⟨u1',hu1'⟩:=Option.isSome_iff_exists.1 q1'.1
    obtain⟨u2',hu2'⟩:=Option.isSome_iff_exists.1 q2'.1
    obtain⟨u3',hu3'⟩:=Option.isSome_iff_exists.1 q3'.1
    obtain⟨u4',hu4'⟩:=Option.isSome_iff_exists.1 q4'.1
    have fz0':=q0'.2
    have fz1':=q1'.2
    have fz2':=q2'.2
    have fz3':=q3'.2
    have fz4':=q4'.2
    clear q0 q1 q2 q3 q4 q0' q1' q2' q3' q4'
    have s50:=jZ W₅ g5 (ms.length * 5) (eU kid sp)
    have b51:=s50.heap b5 (fun e=>ng5 (by simp only [Bl.one] at e;exact e.symm))
    have cN1:=dE b51
    have fN1:=aJ b51
    obtain⟨h60,h61⟩:=bQ (s50.heap x5 (fun e=>ng6 (by simp only [Bl.one] at e;exact e.symm)))
    have hix:(ms.length:Int)<(ms.length:Int)+1:=by omega
    obtain⟨k60,k61⟩:=bQ (((Fr.refl (Bl.one W4.heap.size) (qAe W₅ g5 (ms.length * 5) (eU kid sp))).setCell (p:=⟨W4.heap.size,0,none⟩) (.inl rfl) (.slice (some ⟨g5,0,none⟩) (ms.length+1) k5)).heap (s50.heap x5 (fun e=>ng6 (by simp only [Bl.one] at e;exact e.symm))) (oN (by omega)))
    obtain⟨k70,k71⟩:=bQ ((jZ (W₅.setCell ⟨W4.heap.size,0,none⟩ (.slice (some ⟨g5,0,none⟩) (ms.length+1) k5)) g5 (ms.length * 5) (eU kid sp)).heap (f50.heap x5 (oN (by omega))) (fun e=>ng6 (by simp only [Bl.one] at e;exact e.symm)))
    refine hK.out _ _ ⟨h50,h51⟩ (fun hHeld=>?_)
    clear hK K
    try simp only [Act.put,List.setIfInBounds_toArray,List.set_cons_zero,List.set_cons_succ]
    refine wpAnyH_take (i:=7) (v:=.pointer (some ⟨g5,ms.length * 5,none⟩)) rfl (by kernel_rfl) (by kernel_rfl) (by kernel_rfl) (fun _ _ _ h=>h) (Or.inl ⟨by rfl,fun w hSw=>by(try dsimp only at hSw);go_simp⟩) (by assumption) ?_
    try simp only [Act.put,List.setIfInBounds_toArray,List.set_cons_zero,List.set_cons_succ]
    refine wpAnyH_ready (rs:=[8,9]) (by kernel_rfl) (by simp) (AllReadyH.cons rfl (fun K hK=>?_) (AllReadyH.cons rfl (fun K hK=>?_) AllReadyH.nil))
    ·go_simp
     refine hK.out _ _ ⟨h60,h61⟩ (fun hHeld=>?_)
     clear hK K
     try simp only [Act.put,List.setIfInBounds_toArray,List.set_cons_zero,List.set_cons_succ]
     refine wpAnyH_ready (rs:=[9]) (by kernel_rfl) (by simp) (AllReadyH.cons rfl (fun K hK=>?_) AllReadyH.nil)
     go_simp
     refine hK.out _ _ ⟨k60,k61⟩ (fun hHeld=>?_)
     clear hK K
     refine wpAnyH_done (by kernel_rfl) ?_ _
     have HLQ:=HLP.out _ _ _ _ hP1 hP3 A6.lies (fun k hk=>hk.elim)
     gi_wp2
     exact HLQ
    ·go_simp
     refine hK.out _ _ ⟨hN0,hN1⟩ (fun hHeld=>?_)
     clear hK K
     try simp only [Act.put,List.setIfInBounds_toArray,List.set_cons_zero,List.set_cons_succ]
     refine wpAnyH_ready (rs:=[8]) (by kernel_rfl) (by simp) (AllReadyH.cons rfl (fun K hK=>?_) AllReadyH.nil)
     go_simp
     refine hK.out _ _ ⟨k70,k71⟩ (fun hHeld=>?_)
     clear hK K
     refine wpAnyH_done (by kernel_rfl) ?_ _
     have HLQ:=HLP.out _ _ _ _ hP2 hP4 A6.lies (fun k hk=>hk.elim)
     gi_wp2
     exact HLQ
  ·cases kid with
   | branch=>exact hst.elim
   | leaf q es =>
    have hzi:¬ ((own.length:Int)=0):=by omega
    gi_wp2_with (refine⟨trivial,rfl,?_⟩;gi_at_call 137;refine(CallsIn.inRound l (callsIn_wide.2 hWi)).mono ?_;clear hWi;rintro e W₃ ⟨oa,oc,rfl,hcut,hb₃⟩)
    have z33:=hb₃.size
    have x3:=(hb₃.block _ z22).trans x2
    have t3:=(hb₃.block _ (by have:=(Array.getElem?_eq_some_iff.1 tX).1;omega)).trans tX
    have hA3:oI w W₃ NA v (kO s ks kids cs pre.length) ms Z:=⟨(hb₃.block _ (Array.getElem?_eq_some_iff.1 hA2.box).1).trans hA2.box,bN hA2.row (On.of_below hb₃ (Y:=fun k=>v.ownBlock=some k) (fun k hk=>bI hA2.row hk)) (fun k hk=>hk),hA2.nds.on (On.of_below hb₃ (fun k hk=>(hA2.apart k hk).2.1)),hA2.new,fun k hk=>⟨(hA2.apart k hk).1,by have:=(hA2.apart k hk).2.1;omega,(hA2.apart k hk).2.2⟩⟩
    have hml:ms.length≤100000:=by have:=hA3.nds.1;rw [List.length_map] at this;omega
    obtain⟨va,vc,rfl⟩:=aT hA3.row
    have hf3:aH W₃ β sv lv fs:=hfX.on (On.of_below hb₃ hfX.lies)
    have hR3:=hcut.2.1 W₃ (hRX.on (On.of_below hb₃ hSw2))
    have hCh:=vE β sv lv fs hl root ca cn cc q sp es own oa oc S W₃.drew hst (hf3.on (On.of_below (Below.refl _ W₃).drew hf3.lies)) hR3 (fun k hk=>by have:=hSw2 k hk;show k<W₃.heap.size;omega) (how▸iD hr sp) (fun c hc=>hgd c (jF.1 (how▸hc)).1) (by have:=qVn cs sp;rw [how] at this;omega) hcut.1 hcut.2.2 (how▸hon _ hpm q es rfl)
    have HKP:Hid (eT (.leaf q es,sp) cs=cQ (bK es own)):=by
     show _=_
     simp only [eT,how,hz,if_false]
    have HLP:Hid (∀ Wf v' ms' Z',oI w Wf NA v' (kO s ks kids cs pre.length++cQ (bK es own)) ms' (Or2 Z Z')→Fr (fun k=>k=NA∨(Value.slice va ms.length vc).ownBlock=some k) W₃ Wf→(∀ k,v'.ownBlock=some k→(Value.slice va ms.length vc).ownBlock=some k∨W₃.heap.size≤k)→(∀ k,Z' k→W₃.heap.size≤k)→∃ Y'',I (pre++[(((T.leaf q es).place:Int),sp)]) Y'' Wf∧Fr Y' W₂ Wf∧aK W₂ Y' Y''):=by
     intro Wf v' ms' Z' hAf hFf hvf hZf
     refine⟨fun k=>k=NA∨v'.ownBlock=some k∨Or2 Z Z' k,⟨v',ms',Or2 Z Z',?_,fun k=>Iff.rfl⟩,(Fr.of_below hb₃).trans (hFf.mono (fun k hk=>.inl ((hY k).2 (by rcases hk with hk|hk;exact .inl hk;exact .inr (.inl hk))))),?_⟩
     ·rw [List.length_append,List.length_singleton,HFS.out,HKP.out];exact hAf
     ·rintro k (hk|hk|hk|hk)
      ·exact .inl ((hY k).2 (.inl hk))
      ·exact(hvf k hk).imp (fun h=>(hY k).2 (.inr (.inl h))) (fun h=>by omega)
      ·exact .inl ((hY k).2 (.inr (.inr hk)))
      ·exact .inr (by have:=hZf k hk;omega)
    have cA:W₃.cell? ⟨W4.heap.size,0,none⟩=some (.slice va ms.length vc):=dE hA3.box
    have nA3:W4.heap.size<W₃.heap.size:=(Array.getElem?_eq_some_iff.1 hA3.box).1
    have HS:Hid (∀ X,Below W₃.drew.heap.size W₃.drew X→X.cell? ⟨w.heap.size,0,none⟩=some (.pointer (some ⟨β,0,none⟩))∧X.cell? ⟨w.heap.size,1,none⟩=some (.int .i64 root)∧X.cell? ⟨w.heap.size,2,none⟩=some (.slice ca cn cc)∧X.cell? ⟨W.heap.size,0,none⟩=some (.string sp.lo)∧X.cell? ⟨W.heap.size,1,none⟩=some (.string sp.hi)):=by
     intro X hX
     have h1:=(hX.block w.heap.size (Array.getElem?_eq_some_iff.1 t3).1).trans t3
     have h2:=(hX.block W.heap.size (Array.getElem?_eq_some_iff.1 x3).1).trans x3
     obtain⟨e1,e2,e3⟩:=dM h1
     obtain⟨e4,e5⟩:=bQ h2
     exact⟨e1,e2,e3,e4,e5⟩
    have HC5:Hid (∀ X,Below W₃.drew.heap.size W₃.drew X→X.cell? ⟨W4.heap.size,0,none⟩=some (.slice va ms.length vc)):=fun X hX=>dE ((hX.block W4.heap.size nA3).trans hA3.box)
    have hS0:=HS.out W₃.drew (Below.refl _ _)
    clear hz
    refine iZ (S:=fun X=>X.cell? ⟨w.heap.size,0,none⟩=some (.pointer (some ⟨β,0,none⟩))∧X.cell? ⟨w.heap.size,1,none⟩=some (.int .i64 root)∧X.cell? ⟨w.heap.size,2,none⟩=some (.slice ca cn cc)∧X.cell? ⟨W.heap.size,0,none⟩=some (.string sp.lo)∧X.cell? ⟨W.heap.size,1,none⟩=some (.string sp.hi)) (by kernel_rfl) (by kernel_rfl) (fun _ _ h=>h) hS0 (fun hHeld=>?_)
    refine wpAnyH_take (i:=1) (v:=.agg #[.pointer (some ⟨β,0,none⟩),.int .i64 root,.slice ca cn cc]) rfl (by kernel_rfl) (by kernel_rfl) (by kernel_rfl) (fun _ _ _ h=>h) (Or.inl ⟨by rfl,fun w hSw=>by(try dsimp only at hSw);go_simp⟩) (by assumption) ?_
    try simp only [Act.put,List.setIfInBounds_toArray,List.set_cons_zero,List.set_cons_succ]
    refine wpAnyH_take (i:=2) (v:=.int .i64 (T.leaf q es).place) rfl (by kernel_rfl) (by kernel_rfl) (by kernel_rfl) (fun _ _ _ h=>h) (Or.inl ⟨by rfl,fun w hSw=>by(try dsimp only at hSw);go_simp⟩) (by assumption) ?_
    try simp only [Act.put,List.setIfInBounds_toArray,List.set_cons_zero,List.set_cons_succ]
    refine wpAnyH_take (i:=3) (v:=.agg #[.string sp.lo,.string sp.hi]) rfl (by kernel_rfl) (by kernel_rfl) (by kernel_rfl) (fun _ _ _ h=>h) (Or.inl ⟨by rfl,fun w hSw=>by(try dsimp only at hSw);go_simp⟩) (by assumption) ?_
    try simp only [Act.put,List.setIfInBounds_toArray,List.set_cons_zero,List.set_cons_succ]
    refine wpAnyH_take (i:=4) (v:=.slice oa own.length oc) rfl (by kernel_rfl) (by kernel_rfl) (by kernel_rfl) (fun _ _ _ h=>h) (Or.inl ⟨by rfl,fun w hSw=>by(try dsimp only at hSw);go_simp⟩) (by assumption) ?_
    try simp only [Act.put,List.setIfInBounds_toArray,List.set_cons_zero,List.set_cons_succ]
    refine wpAnyH_ready (rs:=[0,5]) (by kernel_rfl) (by simp) (AllReadyH.cons rfl (fun K hK=>?_) (AllReadyH.cons rfl (fun K hK=>?_) AllReadyH.nil))
    ·go_simp
     refine hK.out _ _ hS0 (fun hHeld=>?_)
     clear hK K
     try simp only [Act.put,List.setIfInBounds_toArray,List.set_cons_zero,List.set_cons_succ]
     refine wpAnyH_ready (rs:=[5]) (by kernel_rfl) (by simp) (AllReadyH.cons rfl (fun K hK=>?_) AllReadyH.nil)
     go_simp
     go_at_call 164
     refine Calls.mono hCh ?_
     rintro e W₅ ⟨v5,ms5,rfl,ho5,hN5,hb5,hl5⟩
     simp only []
     obtain⟨h5t0,h5t1,h5t2,h5s0,h5s1⟩:=HS.out W₅ hb5
     refine hK.out _ _ ⟨h5t0,h5t1,h5t2,h5s0,h5s1⟩ (fun hHeld=>?_)
     clear hK K
     try simp only [Act.put,List.setIfInBounds_toArray,List.set_cons_zero,List.set_cons_succ]
     have hB5:Below W₃.heap.size W₃ W₅:=(Below.refl _ W₃).drew.trans hb5
     have oZ:∀ k,(Value.slice va ms.length vc).ownBlock=some k→k<W₃.heap.size:=fun k hk=>bI hA3.row hk
     have ho53:W₅.ownsRow 0 224 5 (.slice va ms.length vc) ms.length (aQ ms):=bN hA3.row (On.of_below hB5 (Y:=fun k=>(Value.slice va ms.length vc).ownBlock=some k) oZ) (fun k hk=>hk)
     obtain⟨a5,c5,rfl,hc5,hrow5⟩:=cU ho5
     have hlq:ms5.length≤100000:=by
      have h1:=hN5.1
      rw [List.length_map] at h1
      have h2:=congrArg List.length HFS.out
      rw [HKP.out,List.length_append] at h2
      omega
     refine wpAnyH_ready (rs:=[6]) (by kernel_rfl) (by simp) (AllReadyH.cons rfl (fun K hK=>?_) AllReadyH.nil)
     refine qDy W₅ rfl (.tmp 47) (.tmp 52) 221 224 _ 5 88 rfl Tryz.underlying221 iH rfl (by decide) (.slice va ms.length vc) ms.length (aQ ms) (by simp [Act.eval,Act.put]) ho53 a5 ms5.length c5 _ (aQ ms5) (by simp [Act.eval,Act.put]) (fH ms5) hrow5 (pC ms5) (by omega) (by omega) ?_
     intro v7 W₇ A7
     obtain⟨a7,c7,rfl⟩:=aT A7.row
     have b7:W₇.heap[W4.heap.size]?=some (lU (.slice va ms.length vc)):=A7.fr.heap ((hB5.block _ nA3).trans hA3.box) (bD hA3.row hA3.box (by decide))
     have cN:=dE b7
     have fN:=aJ b7
     have F7:Fr (fun k=>(Value.slice va ms.length vc).ownBlock=some k) W₃ W₇:=(Fr.of_below hB5).trans A7.fr
     have x7:=F7.heap x3 (bD hA3.row x3 (by decide))
     have t7:=F7.heap t3 (bD hA3.row t3 (by decide))
     obtain⟨h7s0,h7s1⟩:=bQ x7
     obtain⟨h7t0,h7t1,h7t2⟩:=dM t7
     have f8:Fr (Bl.one W4.heap.size) W₇ (W₇.setCell ⟨W4.heap.size,0,none⟩ (.slice a7 (ms.length+ms5.length) c7)):=(Fr.refl (Bl.one W4.heap.size) W₇).setCell (p:=⟨W4.heap.size,0,none⟩) (.inl rfl) _
     obtain⟨h8s0,h8s1⟩:=bQ (f8.heap x7 (oN (by omega)))
     obtain⟨h8t0,h8t1,h8t2⟩:=dM (f8.heap t7 (oN (by omega)))
     have z5:=hB5.size
     have z7:=A7.fr.size
     have nb7:(Value.slice a7 (ms.length+ms5.length) c7).ownBlock≠some W4.heap.size:=bD A7.row b7 (by decide)
     have FF:Fr (fun k=>k=NA∨(Value.slice va ms.length vc).ownBlock=some k) W₃ (W₇.setCell ⟨W4.heap.size,0,none⟩ (.slice a7 (ms.length+ms5.length) c7)):=(F7.mono (fun k hk=>.inl (.inr hk))).trans (f8.mono (fun k hk=>.inl (.inl (by simp only [Bl.one] at hk;exact hk))))
     have hv7:∀ k,(Value.slice a7 (ms.length+ms5.length) c7).ownBlock=some k→(Value.slice va ms.length vc).ownBlock=some k∨W₃.heap.size≤k:=fun k hk=>(A7.lies k hk).imp id (fun h=>by omega)
     have hAf:=hA3.more (ns':=cQ (bK es own)) (ms':=ms5) (Z':=New W₃ W₅) FF (by have:=aI b7 0 (.slice a7 (ms.length+ms5.length) c7);simpa using this) (eD A7.row f8 (fun k hk e=>by simp only [Bl.one] at e;subst e;exact nb7 hk)) hv7
      ((hN5.on (A7.fr.on (fun k hk=>⟨hk.2,fun e=>by have h1:=oZ k e;have h2:W₃.heap.size≤k:=hk.1;omega⟩))).on (f8.on (fun k hk=>⟨by have:=hk.2;omega,fun e=>by simp only [Bl.one] at e;have h2:W₃.heap.size≤k:=hk.1;omega⟩)))
      (fun k hk=>⟨hk.1,by have:=hk.2;simp;omega,fun e=>by have h2:W₃.heap.size≤k:=hk.1;have h3:=hk.2;rcases A7.lies k e with h|h;exact absurd (oZ k h) (by omega);omega⟩) (by have:=FW0.size;omega)
     refine hK.out _ _ ⟨h7t0,h7t1,h7t2,h7s0,h7s1⟩ (fun hHeld=>?_)
     clear hK K
     try simp only [Act.put,List.setIfInBounds_toArray,List.set_cons_zero,List.set_cons_succ]
     refine wpAnyH_ready (rs:=[7]) (by kernel_rfl) (by simp) (AllReadyH.cons rfl (fun K hK=>?_) AllReadyH.nil)
     go_simp
     refine hK.out _ _ ⟨h8t0,h8t1,h8t2,h8s0,h8s1⟩ (fun hHeld=>?_)
     clear hK K
     refine wpAnyH_done (by kernel_rfl) ?_ _
     have HLQ:=HLP.out _ _ _ _ hAf FF hv7 (fun k hk=>hk.1)
     gi_wp2
     exact HLQ
    ·go_simp
     go_at_call 164
     refine Calls.mono hCh ?_
     rintro e W₅ ⟨v5,ms5,rfl,ho5,hN5,hb5,hl5⟩
     simp only []
     obtain⟨h5t0,h5t1,h5t2,h5s0,h5s1⟩:=HS.out W₅ hb5
     refine hK.out _ _ ⟨h5t0,h5t1,h5t2,h5s0,h5s1⟩ (fun hHeld=>?_)
     clear hK K
     try simp only [Act.put,List.setIfInBounds_toArray,List.set_cons_zero,List.set_cons_succ]
     have cA5:=HC5.out W₅ hb5
     refine wpAnyH_ready (rs:=[0]) (by kernel_rfl) (by simp) (AllReadyH.cons rfl (fun K hK=>?_) AllReadyH.nil)
     go_simp
     refine hK.out _ _ ⟨h5t0,h5t1,h5t2,h5s0,h5s1⟩ (fun hHeld=>?_)
     clear hK K
     try simp only [Act.put,List.setIfInBounds_toArray,List.set_cons_zero,List.set_cons_succ]
     have hB5:Below W₃.heap.size W₃ W₅:=(Below.refl _ W₃).drew.trans hb5
     have oZ:∀ k,(Value.slice va ms.length vc).ownBlock=some k→k<W₃.heap.size:=fun k hk=>bI hA3.row hk
     have ho53:W₅.ownsRow 0 224 5 (.slice va ms.length vc) ms.length (aQ ms):=bN hA3.row (On.of_below hB5 (Y:=fun k=>(Value.slice va ms.length vc).ownBlock=some k) oZ) (fun k hk=>hk)
     obtain⟨a5,c5,rfl,hc5,hrow5⟩:=cU ho5
     have hlq:ms5.length≤100000:=by
      have h1:=hN5.1
      rw [List.length_map] at h1
      have h2:=congrArg List.length HFS.out
      rw [HKP.out,List.length_append] at h2
      omega
     refine wpAnyH_ready (rs:=[6]) (by kernel_rfl) (by simp) (AllReadyH.cons rfl (fun K hK=>?_) AllReadyH.nil)
     refine qDy W₅ rfl (.tmp 47) (.tmp 52) 221 224 _ 5 88 rfl Tryz.underlying221 iH rfl (by decide) (.slice va ms.length vc) ms.length (aQ ms) (by simp [Act.eval,Act.put]) ho53 a5 ms5.length c5 _ (aQ ms5) (by simp [Act.eval,Act.put]) (fH ms5) hrow5 (pC ms5) (by omega) (by omega) ?_
     intro v7 W₇ A7
     obtain⟨a7,c7,rfl⟩:=aT A7.row
     have b7:W₇.heap[W4.heap.size]?=some (lU (.slice va ms.length vc)):=A7.fr.heap ((hB5.block _ nA3).trans hA3.box) (bD hA3.row hA3.box (by decide))
     have cN:=dE b7
     have fN:=aJ b7
     have F7:Fr (fun k=>(Value.slice va ms.length vc).ownBlock=some k) W₃ W₇:=(Fr.of_below hB5).trans A7.fr
     have x7:=F7.heap x3 (bD hA3.row x3 (by decide))
     have t7:=F7.heap t3 (bD hA3.row t3 (by decide))
     obtain⟨h7s0,h7s1⟩:=bQ x7
     obtain⟨h7t0,h7t1,h7t2⟩:=dM t7
     have f8:Fr (Bl.one W4.heap.size) W₇ (W₇.setCell ⟨W4.heap.size,0,none⟩ (.slice a7 (ms.length+ms5.length) c7)):=(Fr.refl (Bl.one W4.heap.size) W₇).setCell (p:=⟨W4.heap.size,0,none⟩) (.inl rfl) _
     obtain⟨h8s0,h8s1⟩:=bQ (f8.heap x7 (oN (by omega)))
     obtain⟨h8t0,h8t1,h8t2⟩:=dM (f8.heap t7 (oN (by omega)))
     have z5:=hB5.size
     have z7:=A7.fr.size
     have nb7:(Value.slice a7 (ms.length+ms5.length) c7).ownBlock≠some W4.heap.size:=bD A7.row b7 (by decide)
     have FF:Fr (fun k=>k=NA∨(Value.slice va ms.length vc).ownBlock=some k) W₃ (W₇.setCell ⟨W4.heap.size,0,none⟩ (.slice a7 (ms.length+ms5.length) c7)):=(F7.mono (fun k hk=>.inl (.inr hk))).trans (f8.mono (fun k hk=>.inl (.inl (by simp only [Bl.one] at hk;exact hk))))
     have hv7:∀ k,(Value.slice a7 (ms.length+ms5.length) c7).ownBlock=some k→(Value.slice va ms.length vc).ownBlock=some k∨W₃.heap.size≤k:=fun k hk=>(A7.lies k hk).imp id (fun h=>by omega)
     have hAf:=hA3.more (ns':=cQ (bK es own)) (ms':=ms5) (Z':=New W₃ W₅) FF (by have:=aI b7 0 (.slice a7 (ms.length+ms5.length) c7);simpa using this) (eD A7.row f8 (fun k hk e=>by simp only [Bl.one] at e;subst e;exact nb7 hk)) hv7
      ((hN5.on (A7.fr.on (fun k hk=>⟨hk.2,fun e=>by have h1:=oZ k e;have h2:W₃.heap.size≤k:=hk.1;omega⟩))).on (f8.on (fun k hk=>⟨by have:=hk.2;omega,fun e=>by simp only [Bl.one] at e;have h2:W₃.heap.size≤k:=hk.1;omega⟩)))
      (fun k hk=>⟨hk.1,by have:=hk.2;simp;omega,fun e=>by have h2:W₃.heap.size≤k:=hk.1;have h3:=hk.2;rcases A7.lies k e with h|h;exact absurd (oZ k h) (by omega);omega⟩) (by have:=FW0.size;omega)
     refine hK.out _ _ ⟨h7t0,h7t1,h7t2,h7s0,h7s1⟩ (fun hHeld=>?_)
     clear hK K
     try simp only [Act.put,List.setIfInBounds_toArray,List.set_cons_zero,List.set_cons_succ]
     refine wpAnyH_ready (rs:=[7]) (by kernel_rfl) (by simp) (AllReadyH.cons rfl (fun K hK=>?_) AllReadyH.nil)
     go_simp
     refine hK.out _ _ ⟨h8t0,h8t1,h8t2,h8s0,h8s1⟩ (fun hHeld=>?_)
     clear hK K
     refine wpAnyH_done (by kernel_rfl) ?_ _
     have HLQ:=HLP.out _ _ _ _ hAf FF hv7 (fun k hk=>hk.1)
     gi_wp2
     exact HLQ
 ·rintro D Y' W hD hYD ⟨v,ms,Z,hA,hY⟩ hFW hGW hDW
  have hall':kO s ks kids cs (parts s g.keys g.kids).length=(parts s ks kids).flatMap (fun x=>eT x cs):=by
   rw [HXS.out,List.length_map];unfold kO;rw [List.take_length]
  rw [hall'] at hA
  obtain⟨ns,hns⟩:=nM ((parts s ks kids).flatMap (fun x=>eT x cs))
  rw [hns] at hA hJ
  have HNS:Hid ((parts s ks kids).flatMap (fun x=>eT x cs)=ns):=hns
  clear hns hall'
  have zW:W6.heap.size≤W.heap.size:=hFW.size
  have tW:=hFW.heap t6 (fun h=>by simp only [Bl.one,NA] at h;omega)
  have FW0:Fr (Bl.one NA) w W:=(F6.mono (fun _ h=>h.elim)).trans hFW
  have nNA:∀ k,k<w.heap.size→¬ Bl.one NA k:=fun k hk e=>by simp only [Bl.one,NA] at e;omega
  have hfW:aH W β sv lv fs:=hf.on (FW0.on (fun k hk=>⟨hf.lies k hk,nNA k (hf.lies k hk)⟩))
  have hml:ms.length=ns.length:=by have:=hA.nds.1;rwa [List.length_map] at this
  have hJl:=hJ.len
  obtain⟨va,vc,hva,hvc,hrow⟩:=cU hA.row
  subst hva
  have cA:W.cell? ⟨W4.heap.size,0,none⟩=some (.slice va ms.length vc):=dE hA.box
  have hSS:∀ b,((Value.slice va ms.length vc).ownBlock=some b∨Z b)→b<W.heap.size:=fun b hb=>hb.elim (fun h=>bI hA.row h) (fun h=>(hA.apart b h).2.1)
  have hJn:=qZc β sv lv fs hl root ca cn cc ns ms va vc (fun k=>(Value.slice va ms.length vc).ownBlock=some k∨Z k) W hfW hJ.each hJ.count (hrow.mono (fun k hk=>.inl hk)) (hA.nds.mono (fun k hk=>.inr hk)) hSS (by omega) (by omega)
  rw [← hml] at hJn
  have HML:Hid (ms.length=ns.length):=hml
  clear hml
  obtain⟨d0,d1,d2⟩:=dM tW
  have hm:Marks w.heap.size [mk D] W:=(Marks.nil w.heap.size W6).cons (fun D' _ h=>hFW.heap h (fun e=>by simp only [Bl.one,NA] at e;subst e;rw [n6] at h;simp at h)) (by omega) hDW hD
  have HWw:Hid (Below w.heap.size w W):=FW0.below (Nat.le_refl _) (fun k hk=>by simp only [Bl.one,NA] at hk;omega)
  have hnw:∀ k,((Value.slice va ms.length vc).ownBlock=some k∨Z k)→w.heap.size≤k:=fun k hk=>hk.elim (hA.new k) (fun h=>(hA.apart k h).1)
  have hww:=HWw.out.size
  gi_wp2_with (first
   | (refine⟨trivial,rfl,?_⟩;gi_at_call 177;refine(callsIn_wide.2 hJn).mono ?_;clear hJn;rintro e W7 ⟨v7,rs,rfl,ho7,hN7,hb7,hl7⟩;obtain⟨a7,c7,hv7,hc7,hrow7⟩:=cU ho7;subst hv7;have HRL:Hid (rs.length=(kD eB ns).length):=(by have:=hN7.1;rwa [List.length_map] at this);have hrj:=hJ.jlen;have z7:=hb7.size;have hfit:∀ x∈rs,x.lo.size≤24:=(fun x hx=>(by obtain⟨i,hi,rfl⟩:=List.getElem_of_mem hx;have h1:i<(kD eB ns).length:=(by have:=HRL.out;omega);have h2:=(hN7.2 i (nd0 (kD eB ns)[i]) rs[i] (by rw [List.getElem?_map,List.getElem?_eq_getElem h1];rfl) (List.getElem?_eq_getElem hi)).lo;rw [h2];have h3:=hJ.lo _ (List.getElem_mem h1);(cases hq:(kD eB ns)[i])<;>rw [hq] at h3<;>exact h3));have hNB:=pM a7 c7 rs (fun k=>w.heap.size≤k∧k<W7.heap.size) W7 (hrow7.mono (fun k hk=>⟨Nat.le_trans hww (hl7 k hk),bI ho7 hk⟩)) (fun k hk=>hk.2) (by have:=HRL.out;omega) hc7 (fun x hx=>hfit x hx) (fun x hx=>(by have:=hfit x hx;unfold ksz;omega)))
   | (refine⟨trivial,rfl,?_⟩;gi_at_call 165;refine(callsIn_wide.2 hNB).mono ?_;clear hNB;rintro e W8 ⟨v8,qs,rfl,ho8,hql,hqr,hb8,hl8⟩))
  have z8:=hb8.size
  have hm8:Marks w.heap.size [mk D] W8:=hm.on (fun D' _ h=>(hb8.block _ (by have:=(Array.getElem?_eq_some_iff.1 h).1;omega)).trans ((hb7.block _ (Array.getElem?_eq_some_iff.1 h).1).trans h))
  refine qLc rfl hm8 ?_
  intro w' ht'
  have hsz:=ht'.size
  have hB8:Below w.heap.size w W8:=(HWw.out.trans (hb7.mono hww)).trans (hb8.mono (by omega))
  have hN8:bS W8 (New w W8) ((kD eB ns).map nd0) rs:=(hN7.on (On.of_below hb8 (fun k hk=>by rcases hk.1 with h|h;have:=hSS k h;omega;exact h.2))).mono (fun k hk=>by
   rcases hk.1 with h|h
   ·exact⟨hnw k h,by have:=hSS k h;omega⟩
   ·exact⟨by omega,by omega⟩)
  have hBr:=qLv (w:=w) hN8 hql (fun q hq=>⟨(hqr q hq).1,(hqr q hq).2.mono (fun k hk=>⟨hk.1,by omega⟩)⟩)
  refine⟨_,qs.map jU,rfl,?_,?_,hB8.trans ht'.below,fun k hk=>by have:=hl8 k hk;omega⟩
  ·rw [List.length_map];exact pZ ho8 ht'
  ·rw [HNS.out]
   refine bS.took (hBr.mono (fun k hk=>⟨hk.1,by have:=hk.2;omega⟩)) ht'
end Go.Proofs.YtfnhmpcpeahfkaaGreat.Tree
