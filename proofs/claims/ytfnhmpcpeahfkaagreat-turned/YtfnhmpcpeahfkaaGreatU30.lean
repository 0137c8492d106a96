/-
  Joined: Nods, Tell, Loose, Loose2, PRise, PEnts.
-/
import Derived.Test.YtfnhmpcpeahfkaaGreatU29
import Derived.Test.YtfnhmpcpeahfkaaGreatU25
set_option linter.unusedSimpArgs false
set_option linter.unusedVariables false
set_option maxRecDepth 100000
set_option maxHeartbeats 8000000
namespace Go.Proofs.YtfnhmpcpeahfkaaGreat.Tree
open Go.RowKit Pages
variable {B:Nat} {S:Bl} {e:TypeId} {m:MN} {ms:List MN} {n:Nd} {ns:List Nd} {w w':World} {xs:List Value}
theorem qGx {z g n c:Nat}  (h:w.ownsRow B e z (.slice (some ⟨g,0,none⟩) n c) n xs) {m:Nat} (hm:m≤n):w.ownsRow B e z (.slice (some ⟨g,0,none⟩) m c) m (xs.take (m * z)):=by
 obtain⟨h1,h2⟩:=h
 have hmz:m * z≤n * z:=Nat.mul_le_mul_right z hm
 refine⟨by rw [List.length_take,h1];omega,?_⟩
 rcases h2 with⟨h3,_⟩|⟨g',c',cur,h3,hb,hg,hnc,hcm,hcs,htake⟩
 ·simp at h3
 ·simp only [Value.slice.injEq,Option.some.injEq,Addr.mk.injEq,and_true,true_and] at h3
  obtain⟨rfl,rfl⟩:=h3
  refine .inr ⟨g,c,cur,rfl,hb,hg,by omega,hcm,hcs,?_⟩
  rw [← htake,List.take_take,Nat.min_eq_left hmz]
inductive Nd where
 | mk (s:Sp) (place:Nat) (es:List En) (kids:List Nd)
def Nd.sp:Nd→Sp|.mk s _ _ _=>s
def Nd.kids:Nd→List Nd|.mk _ _ _ ks=>ks
inductive iK (w:World) (S:Bl):Nd→MN→Prop
 | mk (s:Sp) (place:Nat) (es:List En) (kids:List Nd) (m:MN) (ms:List MN) (h1:m.lo=s.lo) (h2:m.hi=s.hi) (h3:m.place=place) (h4:m.en=es.length) (h5:m.kn=kids.length) (h6:es.length≤m.ec) (h7:kids.length≤m.kc)
   (h8:aL w S m.ea (aP es)) (h9:aL w S m.ka (aQ ms)) (h10:ms.length=kids.length) (h11:∀ (i:Nat) (k:Nd) (x:MN),kids[i]?=some k→ms[i]?=some x→iK w S k x):iK w S (.mk s place es kids) m
theorem iK.on (h:iK w S n m) (ho:On S w w'):iK w' S n m:=by
 induction h with
 | mk s place es kids m ms h1 h2 h3 h4 h5 h6 h7 h8 h9 h10 h11 ih=>exact .mk s place es kids m ms h1 h2 h3 h4 h5 h6 h7 (h8.on ho) (h9.on ho) h10 ih
theorem iK.mono {S S':Bl}   (h:iK w S n m) (hs:∀ k,S k→S' k):iK w S' n m:=by
 induction h with
 | mk s place es kids m ms h1 h2 h3 h4 h5 h6 h7 h8 h9 h10 h11 ih=>exact .mk s place es kids m ms h1 h2 h3 h4 h5 h6 h7 (h8.mono hs) (h9.mono hs) h10 ih
def bS (w:World) (S:Bl) (ns:List Nd) (ms:List MN):Prop:=ms.length=ns.length∧∀ (i:Nat) (k:Nd) (x:MN),ns[i]?=some k→ms[i]?=some x→iK w S k x
theorem bS.on (h:bS w S ns ms) (ho:On S w w'):bS w' S ns ms:=⟨h.1,fun i k x a b=>(h.2 i k x a b).on ho⟩
theorem bS.mono {S S':Bl}   (h:bS w S ns ms) (hs:∀ k,S k→S' k):bS w S' ns ms:=⟨h.1,fun i k x a b=>(h.2 i k x a b).mono hs⟩
theorem bS.nil (w:World) (S:Bl):bS w S [] []:=⟨rfl,fun i k x a _=>by simp at a⟩
theorem bS.append {ns ns':List Nd} {ms ms':List MN} (h:bS w S ns ms) (h':bS w S ns' ms'):bS w S (ns++ns') (ms++ms'):=by
 refine⟨by rw [List.length_append,List.length_append,h.1,h'.1],fun i k x a b=>?_⟩
 by_cases hi:i<ns.length
 ·rw [List.getElem?_append_left hi] at a
  rw [List.getElem?_append_left (by rw [h.1];exact hi)] at b
  exact h.2 i k x a b
 ·rw [List.getElem?_append_right (by omega)] at a
  rw [List.getElem?_append_right (by rw [h.1];omega),h.1] at b
  exact h'.2 _ k x a b
theorem bS.take (h:bS w S ns ms) (n:Nat):bS w S (ns.take n) (ms.take n):=by
 refine⟨by rw [List.length_take,List.length_take,h.1],fun i k x a b=>?_⟩
 rw [List.getElem?_take] at a b
 split at a
 ·rename_i hi
  rw [if_pos hi] at b
  exact h.2 i k x a b
 ·simp at a
theorem bS.drop (h:bS w S ns ms) (n:Nat):bS w S (ns.drop n) (ms.drop n):=by
 refine⟨by rw [List.length_drop,List.length_drop,h.1],fun i k x a b=>?_⟩
 rw [List.getElem?_drop] at a b
 exact h.2 _ k x a b
theorem bS.one (h:iK w S n m):bS w S [n] [m]:=⟨rfl,fun i k x a b=>by
 cases i with
 | zero=>simp at a b;subst a b;exact h
 | succ i=>simp at a⟩
def vZ (es:List En):Nd:=.mk ⟨iJ es,⟨#[]⟩⟩ 0 es []
theorem qYx {q:Pc En} (h1:q.l.length≤q.c) (h2:aL w S q.a (aP q.l)):iK w S (vZ q.l) (jH q) :=
 .mk _ 0 q.l [] (jH q) [] rfl rfl rfl rfl rfl h1 (Nat.zero_le _) h2 (.inl rfl) rfl (fun i k x a _=>by simp at a)
theorem vY {qs:List (Pc En)} (h:∀ q∈qs,q.l.length≤q.c∧aL w S q.a (aP q.l)):bS w S ((qs.map (·.l)).map vZ) (qs.map jH):=by
 refine⟨by simp,fun i k x a b=>?_⟩
 rw [List.map_map,List.getElem?_map] at a
 rw [List.getElem?_map] at b
 cases hq:qs[i]? with
 | none=>rw [hq] at a;simp at a
 | some q =>
  rw [hq] at a b
  simp at a b
  subst a b
  have:=h q (List.mem_of_getElem? hq)
  exact qYx this.1 this.2
def qKt (ns:List Nd):ByteArray:=match ns with|[]=>⟨#[]⟩|n :: _=>n.sp.lo
def iB (ks:List Nd):Nd:=.mk ⟨qKt ks,⟨#[]⟩⟩ 0 [] ks
theorem iK.lo (h:iK w S n m):m.lo=n.sp.lo:=by cases h;assumption
theorem bS.first (h:bS w S ns ms):zB ms=qKt ns:=by
 cases ns with
 | nil=>have:=List.eq_nil_of_length_eq_zero (h.1.trans rfl);subst this;rfl
 | cons n ns =>
  cases ms with
  | nil=>have:=h.1;simp at this
  | cons m ms=>exact(h.2 0 n m rfl rfl).lo
theorem qZp {q:Pc MN} {ks:List Nd} (h1:q.l.length≤q.c) (h2:aL w S q.a (aQ q.l)) (h3:bS w S ks q.l):iK w S (iB ks) (jU q) :=
 .mk _ 0 [] ks (jU q) q.l h3.first rfl rfl rfl h3.1 (Nat.zero_le _) (by rw [← h3.1];exact h1) (.inl rfl) h2 h3.1 h3.2
def rX (n:Nd):Nat:=n.sp.lo.size+3
theorem qSp (h:bS w S ns ms):ns.map rX=ms.map ksz:=by
 apply List.ext_getElem?
 intro i
 rw [List.getElem?_map,List.getElem?_map]
 cases hn:ns[i]? with
 | none =>
  have:ms[i]?=none:=by
   rw [List.getElem?_eq_none_iff] at hn ⊢
   rw [h.1];exact hn
  rw [this];rfl
 | some n =>
  have hi:=(List.getElem?_eq_some_iff.1 hn).1
  have hm:ms[i]?=some (ms[i]'(by rw [h.1];exact hi)):=List.getElem?_eq_getElem _
  rw [hm]
  have:=(h.2 i n _ hn hm).lo
  simp [rX,ksz,this]
theorem yO {α:Type} (sz:α→Nat) (l:List α):tot sz l=(l.map sz).sum:=rfl
theorem qPx {α β:Type} (f:α→Nat) (g:β→Nat) (aim:Nat):∀ (l:List α) (m:List β) (c:Nat),l.map f=m.map g→shN f aim l c=shN g aim m c
 | [],[],_,_=>rfl
 | [],_ :: _,_,h=>by simp at h
 | _ :: _,[],_,h=>by simp at h
 | x :: l,y :: m,c,h=>by
  simp only [List.map_cons,List.cons.injEq] at h
  simp only [shN,h.1,qPx f g aim l m _ h.2]
theorem qQg:∀ (k:Nat) (ns:List Nd) (ms:List MN),bS w S ns ms→(mD rX k ns).length=(mD ksz k ms).length∧∀ (i:Nat) (p:List Nd) (q:List MN),(mD rX k ns)[i]?=some p→(mD ksz k ms)[i]?=some q→bS w S p q
 | 0,ns,ms,h=>⟨rfl,fun i p q a _=>by simp [mD] at a⟩
 | k+1,ns,ms,h=>by
  have hs:=qSp h
  have ht:tot rX ns=tot ksz ms:=by rw [yO,yO,hs]
  have hsh:shN rX (tot ksz ms / 2) ns 0=shN ksz (tot ksz ms / 2) ms 0:=qPx _ _ _ _ _ _ hs
  simp only [mD,ht,hsh,← h.1]
  split
  ·split
   ·exact⟨rfl,fun i p q a _=>by simp at a⟩
   ·refine⟨rfl,fun i p q a b=>?_⟩
    cases i with
    | zero=>simp at a b;subst a b;exact h
    | succ i=>simp at a
  ·obtain⟨r1,r2⟩:=qQg k _ _ (h.drop (shN ksz (tot ksz ms / 2) ms 0))
   refine⟨by rw [List.length_cons,List.length_cons,r1],fun i p q a b=>?_⟩
   cases i with
   | zero=>simp at a b;subst a b;exact h.take _
   | succ i=>simp only [List.getElem?_cons_succ] at a b;exact r2 i p q a b
theorem qWa (h:bS w S ns ms):(dZ rX ns).length=(dZ ksz ms).length∧∀ (i:Nat) (p:List Nd) (q:List MN),(dZ rX ns)[i]?=some p→(dZ ksz ms)[i]?=some q→bS w S p q:=by
 unfold dZ;rw [h.1];exact qQg _ ns ms h
theorem qLv {w w':World}    {qs:List (Pc MN)} (h:bS w' S ns ms) (hq:qs.map (·.l)=dZ ksz ms) (hr:∀ q∈qs,q.l.length≤q.c∧aL w' S q.a (aQ q.l)):bS w' S ((dZ rX ns).map iB) (qs.map jU):=by
 obtain⟨h1,h2⟩:=qWa h
 have hl:qs.length=(dZ ksz ms).length:=by rw [← hq];simp
 refine⟨by rw [List.length_map,List.length_map,h1,hl],fun i k x a b=>?_⟩
 rw [List.getElem?_map] at a b
 cases hp:(dZ rX ns)[i]? with
 | none=>rw [hp] at a;simp at a
 | some p =>
  cases hx:qs[i]? with
  | none=>rw [hx] at b;simp at b
  | some q =>
   rw [hp] at a
   rw [hx] at b
   simp at a b
   subst a b
   have hql:(dZ ksz ms)[i]?=some q.l:=by rw [← hq,List.getElem?_map,hx];rfl
   have:=hr q (List.mem_of_getElem? hx)
   exact qZp this.1 this.2 (h2 i p q.l hp hql)
theorem eG {z g n c:Nat}  (h:w.ownsRow B e z (.slice (some ⟨g,0,none⟩) n c) n xs) (k:Nat) (hk:k<xs.length) (u:Value):(w.setCell ⟨g,k,none⟩ u).ownsRow B e z (.slice (some ⟨g,0,none⟩) n c) n (xs.set k u):=by
 obtain⟨h1,h2⟩:=h
 refine⟨by rw [List.length_set];exact h1,?_⟩
 rcases h2 with⟨h3,_⟩|⟨g',c',cur,h3,hb,hg,hnc,hcm,hcs,htake⟩
 ·simp at h3
 ·simp only [Value.slice.injEq,Option.some.injEq,Addr.mk.injEq,and_true,true_and] at h3
  obtain⟨rfl,rfl⟩:=h3
  refine .inr ⟨g,c,_,rfl,hb,aI hg k u,hnc,hcm,by simpa using hcs,?_⟩
  rw [Array.toList_setIfInBounds,List.take_set,htake]
theorem qJf {z g n c:Nat}  {a0 a1 a2 a3 a4:Value} (h:w.ownsRow B e z (.slice (some ⟨g,0,none⟩) n c) n (xs++[a0,a1,a2,a3,a4])) (k:Nat) (hk:xs.length=k) (m:MN) :
  (((((w.setCell ⟨g,k,none⟩ (.string m.lo)).setCell ⟨g,k+1,none⟩ (.string m.hi)).setCell ⟨g,k+2,none⟩ (.int .i64 m.place)).setCell ⟨g,k+3,none⟩ (.slice m.ea m.en m.ec)).setCell ⟨g,k+4,none⟩ (.slice m.ka m.kn m.kc)).ownsRow B e z (.slice (some ⟨g,0,none⟩) n c) n (xs++m.cells):=by
 subst hk
 have e0:=eG h xs.length (by simp) (.string m.lo)
 have e1:=eG e0 (xs.length+1) (by simp) (.string m.hi)
 have e2:=eG e1 (xs.length+2) (by simp) (.int .i64 m.place)
 have e3:=eG e2 (xs.length+3) (by simp) (.slice m.ea m.en m.ec)
 have e4:=eG e3 (xs.length+4) (by simp) (.slice m.ka m.kn m.kc)
 simpa [List.set_append,MN.cells] using e4
end Go.Proofs.YtfnhmpcpeahfkaaGreat.Tree
namespace Go.Proofs.YtfnhmpcpeahfkaaGreat.Tree
open Go.RowKit Go.Shelf Pages
attribute [local go_sem] Oper.semAt_some
def chE (c:Ch):En:=⟨⟨c.key,c.val,c.val.size,0⟩,[]⟩
def cS (cs:List Ch):List En:=(cs.filter (fun c=>!c.gone)).map chE
theorem qMl (cs:List Ch) (j:Nat) (h:j<cs.length):cS (cs.take (j+1))=cS (cs.take j)++(if cs[j].gone=true then [] else [chE cs[j]]):=by
 unfold cS
 rw [xS _ cs j h,List.map_append]
 cases cs[j].gone<;>rfl
theorem qIk (cs:List Ch) (j:Nat) (h:j<cs.length) (hg:cs[j].gone=false):cS cs=cS (cs.take j)++chE cs[j] :: cS (cs.drop (j+1)):=by
 unfold cS
 conv=>lhs;rw [← List.take_append_drop j cs,List.filter_append,List.drop_eq_getElem_cons h,List.filter_cons]
 simp [hg]
theorem qGr {w:World} {b i:Nat} {cs:Array Value} {e:TypeId} {v:Value} (h:w.heap[b]?=some (.cells cs e)) (hv:cs[i]?=some v):w.setCell ⟨b,i,none⟩ v=w:=by
 have hh:(w.setCell ⟨b,i,none⟩ v).heap=w.heap:=by
  apply Array.ext
  ·simp [World.setCell]
  ·intro k h1 h2
   by_cases hk:k=b
   ·subst hk
    have a1:=aI h i v
    have a2:cs.setIfInBounds i v=cs:=by
     obtain⟨hi,hvi⟩:=Array.getElem?_eq_some_iff.1 hv
     apply Array.ext
     ·simp
     ·intro m m1 m2
      rw [Array.getElem_setIfInBounds (by simpa using m1)]
      split
      ·subst_vars;rfl
      ·rfl
    rw [a2,← h] at a1
    rw [Array.getElem?_eq_getElem h1,Array.getElem?_eq_getElem h2] at a1
    exact Option.some.inj a1
   ·have:=Below.heap_setCell w ⟨b,i,none⟩ v k hk
    rw [Array.getElem?_eq_getElem h1,Array.getElem?_eq_getElem h2] at this
    exact Option.some.inj this
 cases w
 simp only [World.setCell] at hh ⊢
 rw [hh]
theorem qFu (c:Ch) (w:World) :
  Calls Tryz.prog 73 #[.agg #[.string c.key,.string c.val,.bool c.gone]] w fun e w'=>e=.returned (.agg #[.string c.key,.string c.val,.int .i64 c.val.size,.int .i64 0])∧Below w.heap.size w w':=by
 obtain⟨W1,hW1⟩:=nM (w.alloc (.cells #[.string c.key,.string c.val,.bool c.gone] 106))
 obtain⟨W2,hW2⟩:=nM (W1.alloc (.cells #[.string ⟨#[]⟩,.string ⟨#[]⟩,.int .i64 0,.int .i64 0] 108))
 have z1:W1.heap.size=w.heap.size+1:=by rw [← hW1];simp
 have x1:W1.heap[w.heap.size]?=some (.cells #[.string c.key,.string c.val,.bool c.gone] 106):=hW1▸aB w _
 have x2:W2.heap[w.heap.size]?=some (.cells #[.string c.key,.string c.val,.bool c.gone] 106):=hW2▸aF _ x1
 have e2:W2.heap[w.heap.size+1]?=some (.cells #[.string ⟨#[]⟩,.string ⟨#[]⟩,.int .i64 0,.int .i64 0] 108):=by rw [← z1];exact hW2▸aB W1 _
 obtain⟨a0,a1,a2⟩:=dM x2
 obtain⟨b0,b1,b2,b3⟩:=gK e2
 have bfr:=aJ e2
 have e3:=aI (aI (aI (aI e2 0 (.string c.key)) 1 (.string c.val)) 2 (.int .i64 c.val.size)) 3 (.int .i64 0)
 obtain⟨d0,d1,d2,d3⟩:=gK (w:=(((W2.setCell ⟨w.heap.size+1,0,none⟩ (.string c.key)).setCell ⟨w.heap.size+1,1,none⟩ (.string c.val)).setCell ⟨w.heap.size+1,2,none⟩ (.int .i64 c.val.size)).setCell ⟨w.heap.size+1,3,none⟩ (.int .i64 0)) (by simpa using e3)
 have HB:Hid (Below w.heap.size w ((((W2.setCell ⟨w.heap.size+1,0,none⟩ (.string c.key)).setCell ⟨w.heap.size+1,1,none⟩ (.string c.val)).setCell ⟨w.heap.size+1,2,none⟩ (.int .i64 c.val.size)).setCell ⟨w.heap.size+1,3,none⟩ (.int .i64 0))):=by
  have h0:Below w.heap.size w W2:=by rw [← hW2,← hW1];exact((Below.refl _ _).alloc (Nat.le_refl _) _).alloc (by simp) _
  exact(((h0.setCell (p:=⟨w.heap.size+1,0,none⟩) (by simp) _).setCell (p:=⟨w.heap.size+1,1,none⟩) (by simp) _).setCell (p:=⟨w.heap.size+1,2,none⟩) (by simp) _).setCell (p:=⟨w.heap.size+1,3,none⟩) (by simp) _
 clear x1 x2 e2 e3
 go_enter Tryz.func73,Tryz.ntmps73
 go_wp2
 refine bodyPost_ret (v:=.agg #[.string c.key,.string c.val,.int .i64 c.val.size,.int .i64 0]) ?_ rfl ⟨rfl,HB.out⟩
 simp [results,Tryz.results73,go_sem,d0,d1,d2,d3]
def qZx (J Jx:List En→Bl→World→Prop) (xs pre ts:List En) (Y:Bl) (W:World) (e:Ending) (W':World):Prop :=
 (e=.returned (.bool true)∧∃ Y',J (pre++ts) Y' W'∧Fr Y W W'∧aK W Y Y') ∨
 (e=.returned (.bool false)∧∃ Y' pp,pp <+: xs∧pp≠[]∧Jx pp Y' W'∧Fr Y W W'∧aK W Y Y')
theorem qIj (l:Nat) (xs:List En) (J Jx:List En→Bl→World→Prop) (sJ:jL J) (lJ:wN J) (Y₀:Bl) (W₀:World)
  (hY:∀ pre x rest args S Y' W',xs=pre++x :: rest→J pre Y' W'→oH x args S W'→(∀ k,S k→¬ Y' k∧k<W'.heap.size)→Fr Y₀ W₀ W'→aK W₀ Y₀ Y'→YieldAt Fence.wide 0 Tryz.prog l args W' (qYc J Jx (pre++[x]) Y' W'))
  (ca:Option Addr) (cc:Nat) (cs:List Ch) (S:Bl) (pre post:List En) (Y:Bl) (W:World) (hx:xs=pre++(cS cs++post)) (hR:aL W S ca (cs.flatMap Ch.cells)) (hS:∀ b,S b→¬ Y b∧b<W.heap.size) (hn:cs.length≤1000000) (hc:cs.length≤cc)
  (h0:J pre Y W) (hF:Fr Y₀ W₀ W) (hG:aK W₀ Y₀ Y) :
  CallsIn Fence.wide 0 Tryz.prog 149 #[.slice ca cs.length cc,.func (.yield l) #[] #[]] W (qZx J Jx xs pre (cS cs) Y W):=by
 refine callsIn_of_wp Tryz.func149 rfl trivial ?_ rfl
 simp only [Tryz.ntmps149,List.size_toArray,List.length_cons,List.length_nil,Nat.reduceAdd,Nat.reduceSub,Array.replicate_succ,Array.replicate_zero,List.push_toArray,List.append_toArray,List.nil_append,List.cons_append]
 have HX:Hid (xs=pre++(cS cs++post)):=hx
 clear hx
 gi_wp2
 gi_loopw [9] (fun i wr=>∃ (j:Nat) (Yr:Bl),j≤cs.length∧i=.int .i64 j∧J (pre++cS (cs.take j)) Yr wr∧Fr Y W wr∧aK W Y Yr) (fun i _=>cs.length-(intOf i).toNat)
 case atStart=>exact⟨0,Y,Nat.zero_le _,rfl,by simpa [cS] using h0,Fr.refl _ _,aK.refl _ _⟩
 case round =>
  obtain⟨j,Yr,hj,rfl,hJr,hFr,hGr⟩:=hrel
  have zr:=hFr.size
  have lYr:=lJ _ _ _ hJr
  by_cases hlt:j<cs.length
  ·obtain⟨rb,ro,hca,hrb,k0,k1,k2⟩:=(hR.on (hFr.on (fun k hk=>⟨(hS k hk).2,(hS k hk).1⟩))).ch hlt
   subst hca
   obtain⟨c,hcj⟩:=nM (cs[j])
   rw [hcj] at k0 k1 k2
   have HT:Hid (cS (cs.take (j+1))=cS (cs.take j)++(if c.gone=true then [] else [chE c])):=by show _=_;rw [qMl cs j hlt,hcj]
   have HSP:Hid (c.gone=false→cS cs=cS (cs.take j)++chE c :: cS (cs.drop (j+1))):=by
    intro hg
    have:=qIk cs j hlt (by rw [hcj];exact hg)
    rw [hcj] at this;exact this
   obtain⟨Wa,hWa⟩:=nM (wr.alloc (.cells #[.string c.key,.string c.val,.bool c.gone] 106))
   have xa:Wa.heap[wr.heap.size]?=some (.cells #[.string c.key,.string c.val,.bool c.gone] 106):=hWa▸aB wr _
   obtain⟨g0,g1,g2⟩:=dM xa
   have fa:Fr Bl.none wr Wa:=hWa▸(Fr.refl _ wr).alloc _
   have gfr:=aJ xa
   have hE:=qFu c Wa
   clear hcj hR
   cases hg:c.gone
   ·have hpp:xs=(pre++cS (cs.take j))++chE c :: (cS (cs.drop (j+1))++post):=by rw [HX.out,HSP.out hg];simp
    have HP:Hid (xs=(pre++cS (cs.take j))++chE c :: (cS (cs.drop (j+1))++post)):=hpp
    clear hpp
    rw [hg] at g2 k2 hE hWa xa
    have hsame:=qGr (i:=2) xa (v:=.bool false) rfl
    gi_wp2_with (refine⟨trivial,rfl,?_⟩;gi_at_call 73;refine(callsIn_wide.2 hE).mono ?_;clear hE;rintro e Wb ⟨rfl,hbb⟩;have fb:Fr Bl.none wr Wb:=fa.trans (Fr.of_below hbb);have hJb:=sJ _ _ _ _ hJr (fb.on (fun k hk=>⟨lYr k hk,fun h=>h⟩));obtain⟨fn,tmps,assign,body,hy,hRr⟩:=hY _ (chE c) _ #[.agg #[.string c.key,.string c.val,.int .i64 c.val.size,.int .i64 0]] Bl.none Yr Wb HP.out hJb rfl (fun _ h=>h.elim) ((hF.grow hFr hG).trans (fb.mono (fun _ h=>h.elim))) (hG.trans hF.size hGr))
    refine⟨rfl,(cO hRr).mono ?_⟩
    clear hy hRr
    have FB:Fr Y W Wb:=hFr.trans (fb.mono (fun _ h=>h.elim))
    rintro e Wf (⟨rfl,Y5,hJ5,hF5,hG5⟩|⟨rfl,Y5,hJ5,hF5,hG5⟩)
    ·have HN:Hid (J (pre++cS (cs.take (j+1))) Y5 Wf):=by
      show J _ _ _
      rw [HT.out,hg,if_neg (by simp),← List.append_assoc];exact hJ5
     clear hJ5
     gi_wp2
     go_roundw
     case rel=>exact⟨j+1,Y5,by omega,by go_num,HN.out,FB.grow hF5 hGr,hGr.trans FB.size hG5⟩
     case measure=>simp [intOf];omega
    ·gi_wp2
     go_ret
     exact .inr ⟨rfl,Y5,_,by rw [HP.out];exact⟨cS (cs.drop (j+1))++post,by simp⟩,by simp,hJ5,FB.grow hF5 hGr,hGr.trans FB.size hG5⟩
   ·have HN:Hid (J (pre++cS (cs.take (j+1))) Yr Wa):=by
     show J _ _ _
     rw [HT.out,hg];simpa using sJ _ _ _ _ hJr (fa.on (fun k hk=>⟨lYr k hk,fun h=>h⟩))
    rw [hg] at g2 k2 hWa
    gi_wp2
    refine⟨trivial,?_⟩
    gi_wp2
    refine⟨fun _ h=>(by cases h),?_⟩
    gi_wp2
    go_roundw
    case rel=>exact⟨j+1,Yr,by omega,by go_num,HN.out,hFr.trans (fa.mono (fun _ h=>h.elim)),hGr⟩
    case measure=>simp [intOf];omega
  ·obtain rfl:j=cs.length:=by omega
   have HJ:Hid (J (pre++cS cs) Yr wr):=by rw [List.take_length] at hJr;exact hJr
   clear hJr
   gi_wp2
   go_ret
   exact .inl ⟨rfl,Yr,HJ.out,hFr,hGr⟩
end Go.Proofs.YtfnhmpcpeahfkaaGreat.Tree
namespace Go.Proofs.YtfnhmpcpeahfkaaGreat.Tree
open Go.RowKit Pages
abbrev MN.obj (m:MN):Obj:=.cells #[.string m.lo,.string m.hi,.int .i64 m.place,.slice m.ea m.en m.ec,.slice m.ka m.kn m.kc] 224
abbrev qAw:Obj:=.cells #[.string ⟨#[]⟩,.string ⟨#[]⟩,.int .i64 0,.slice none 0 0,.slice none 0 0] 224
theorem qNl (β:Nat) (root:Int) (ca:Option Addr) (cn cc:Nat) (m:MN) (hp:((m.place:Int)==0)=true) (w:World) :
  Calls Tryz.prog 190 #[.agg #[.pointer (some ⟨β,0,none⟩),.int .i64 root,.slice ca cn cc],.agg #[.string m.lo,.string m.hi,.int .i64 m.place,.slice m.ea m.en m.ec,.slice m.ka m.kn m.kc]] w fun e w'=>e=.returned (.agg #[.string m.lo,.string m.hi,.int .i64 m.place,.slice m.ea m.en m.ec,.slice m.ka m.kn m.kc])∧Below w.heap.size w w':=by
 obtain⟨W1,hW1⟩:=nM (w.alloc (.cells #[.pointer (some ⟨β,0,none⟩),.int .i64 root,.slice ca cn cc] 95))
 obtain⟨W2,hW2⟩:=nM (W1.alloc m.obj)
 obtain⟨W3,hW3⟩:=nM (W2.alloc qAw)
 have z1:W1.heap.size=w.heap.size+1:=by rw [← hW1];simp
 have z2:W2.heap.size=w.heap.size+1+1:=by rw [← hW2];simp [z1]
 have x2:W3.heap[w.heap.size+1]?=some m.obj:=by rw [← z1];exact hW3▸aF _ (hW2▸aB W1 _)
 have e2:W3.heap[w.heap.size+1+1]?=some qAw:=by rw [← z2];exact hW3▸aB W2 _
 obtain⟨a0,a1,a2,a3,a4⟩:=dC x2
 obtain⟨b0,b1,b2,b3,b4⟩:=dC e2
 have bfr:=aJ e2
 have e3:=aI (aI (aI (aI (aI e2 0 (.string m.lo)) 1 (.string m.hi)) 2 (.int .i64 m.place)) 3 (.slice m.ea m.en m.ec)) 4 (.slice m.ka m.kn m.kc)
 obtain⟨d0,d1,d2,d3,d4⟩:=dC (w:=(((((W3.setCell ⟨w.heap.size+1+1,0,none⟩ (.string m.lo)).setCell ⟨w.heap.size+1+1,1,none⟩ (.string m.hi)).setCell ⟨w.heap.size+1+1,2,none⟩ (.int .i64 m.place)).setCell ⟨w.heap.size+1+1,3,none⟩ (.slice m.ea m.en m.ec)).setCell ⟨w.heap.size+1+1,4,none⟩ (.slice m.ka m.kn m.kc))) (by simpa using e3)
 have HB:Hid (Below w.heap.size w (((((W3.setCell ⟨w.heap.size+1+1,0,none⟩ (.string m.lo)).setCell ⟨w.heap.size+1+1,1,none⟩ (.string m.hi)).setCell ⟨w.heap.size+1+1,2,none⟩ (.int .i64 m.place)).setCell ⟨w.heap.size+1+1,3,none⟩ (.slice m.ea m.en m.ec)).setCell ⟨w.heap.size+1+1,4,none⟩ (.slice m.ka m.kn m.kc))):=by
  have h0:Below w.heap.size w W3:=by rw [← hW3,← hW2,← hW1];exact(((Below.refl _ _).alloc (Nat.le_refl _) _).alloc (by simp) _).alloc (by simp;omega) _
  exact((((h0.setCell (p:=⟨w.heap.size+1+1,0,none⟩) (by simp;omega) _).setCell (p:=⟨w.heap.size+1+1,1,none⟩) (by simp;omega) _).setCell (p:=⟨w.heap.size+1+1,2,none⟩) (by simp;omega) _).setCell (p:=⟨w.heap.size+1+1,3,none⟩) (by simp;omega) _).setCell (p:=⟨w.heap.size+1+1,4,none⟩) (by simp;omega) _
 clear x2 e2 e3
 go_enter Tryz.func190,Tryz.ntmps190
 go_wp2
 refine bodyPost_ret (v:=.agg #[.string m.lo,.string m.hi,.int .i64 m.place,.slice m.ea m.en m.ec,.slice m.ka m.kn m.kc]) ?_ rfl ⟨rfl,HB.out⟩
 simp [results,Tryz.results190,go_sem,d0,d1,d2,d3,d4]
end Go.Proofs.YtfnhmpcpeahfkaaGreat.Tree
namespace Go.Proofs.YtfnhmpcpeahfkaaGreat.Tree
open Go.RowKit Go.Shelf Pages
attribute [local go_sem] Oper.semAt_some
theorem kI.cell {w w':World} {B b o:Nat} {u:Value} (ht:kI B w w') (h:w.cell? ⟨b,o,none⟩=some u):w'.cell? ⟨b,o,none⟩=some u:=by
 have:∃ c e f,w.heap[b]?=some (.cells c e f):=by
  cases hb:w.heap[b]? with
  | none=>simp [World.cell?,hb] at h
  | some x =>
   cases x with
   | cells c e f=>exact⟨c,e,f,rfl⟩
   | _=>simp [World.cell?,hb] at h
 obtain⟨c,e,f,hb⟩:=this
 rw [World.cell?_of_block (w:=w) ((ht.cells _ _ _ _ hb).trans hb.symm)]
 exact h
theorem aL.took {w w':World} {S:Bl} {a:Option Addr} {vs:List Value} {B:Nat} (h:aL w S a vs) (ht:kI B w w'):aL w' S a vs:=by
 rcases h with h|⟨b,off,ha,hs,hc⟩
 ·exact .inl h
 ·exact .inr ⟨b,off,ha,hs,fun i u hu=>ht.cell (hc i u hu)⟩
theorem xT {g:Pg} {es:List En} (h:g.ents=es.map (·.e)):g.ents.flatMap Ent.cells=aP es:=by rw [aP,h]
theorem qNm (β:Nat) (sv lv:Value) (fs:Fs) (hl:(fs.life==0)=false) (root:Int) (ca:Option Addr) (cn cc:Nat) (m:MN) (hpl:((m.place:Int)==0)=false) (es:List En) (w:World) (ht:aX fs 0 (.leaf m.place es) ⟨m.lo,m.hi⟩) (hf:aH w β sv lv fs) :
  Calls Tryz.prog 190 #[.agg #[.pointer (some ⟨β,0,none⟩),.int .i64 root,.slice ca cn cc],.agg #[.string m.lo,.string m.hi,.int .i64 m.place,.slice m.ea m.en m.ec,.slice m.ka m.kn m.kc]] w fun e w' =>
   ∃ ea ec,e=.returned (.agg #[.string m.lo,.string m.hi,.int .i64 0,.slice ea es.length ec,.slice none 0 0])∧aL w' (New w w') ea (aP es)∧es.length≤ec∧Below w.heap.size w w':=by
 obtain⟨g,hg,hk3,hes,hne,hin,hok⟩:=ht
 obtain⟨W1,hW1⟩:=nM (((w.alloc (.cells #[.pointer (some ⟨β,0,none⟩),.int .i64 root,.slice ca cn cc] 95)).alloc m.obj).alloc qAw)
 have B1:Below w.heap.size w W1:=hW1▸(((Below.refl _ _).alloc (Nat.le_refl _) _).alloc (by simp) _).alloc (by simp;omega) _
 have t1:W1.heap[w.heap.size]?=some (.cells #[.pointer (some ⟨β,0,none⟩),.int .i64 root,.slice ca cn cc] 95):=hW1▸aF _ (aF _ (aB w _))
 have s1:W1.heap[w.heap.size+1]?=some m.obj:=by
  rw [← hW1];refine aF _ ?_;have:=aB (w.alloc (.cells #[.pointer (some ⟨β,0,none⟩),.int .i64 root,.slice ca cn cc] 95)) m.obj;simpa using this
 have r1:W1.heap[w.heap.size+1+1]?=some qAw:=by
  rw [← hW1];have:=aB ((w.alloc (.cells #[.pointer (some ⟨β,0,none⟩),.int .i64 root,.slice ca cn cc] 95)).alloc m.obj) qAw;simpa using this
 have z1:W1.heap.size=w.heap.size+3:=by rw [← hW1];simp
 obtain⟨tc0,tc1,tc2⟩:=dM t1
 obtain⟨sc0,sc1,sc2,sc3,sc4⟩:=dC s1
 have hf1:aH W1 β sv lv fs:=hf.on (On.of_below B1 hf.lies)
 obtain⟨sm1,sm2,sm3⟩:=fU hg
 have he0:0<g.ents.length:=by rw [hes,List.length_map];exact List.length_pos_iff.2 hne
 have hel:g.ents.length=es.length:=by rw [hes,List.length_map]
 have hin':∀ e∈g.ents,(⟨m.lo,m.hi⟩:Sp).has e.key=true:=fun e he=>by rw [hes,List.mem_map] at he;obtain⟨x,hx,rfl⟩:=he;exact hin x hx
 have hNd:=nT β sv lv fs root ca cn cc m.place ⟨m.lo,m.hi⟩ g W1 hf1 hl hg (by simp [hk3]) (by simp [hk3]) he0 (hin' _ (List.getElem_mem _)) (hin' _ (List.getElem_mem _)) sm1 sm3
 obtain⟨nk,nkd⟩:=lO hg hk3
 have HK:Hid (g.kids=[]):=nkd
 have HE:Hid (g.ents=es.map (·.e)):=hes
 have HL:Hid (g.ents.length=es.length):=hel
 clear hk3 hes nk nkd hel
 refine(callsIn_wide (n:=0)).1 (callsIn_of_wp_marks Tryz.func190 rfl trivial ?_ rfl)
 simp only [Tryz.ntmps190,List.size_toArray,List.length_cons,List.length_nil,Nat.reduceAdd,Nat.reduceSub,Array.replicate_succ,Array.replicate_zero,List.push_toArray,List.append_toArray,List.nil_append,List.cons_append]
 gi_wp2_with (first
  | (refine⟨trivial,rfl,?_⟩;gi_at_call 117;refine(callsIn_wide.2 hNd).mono ?_;clear hNd;rintro e W3 ⟨vv,rfl,⟨ka,ia,ea,kc,ic,ec,rfl,q1,q2,q3,qq⟩,hb3⟩;obtain⟨W4,hW4⟩:=nM (W3.alloc (pgO g ka ia ea kc ic ec));have x4:W4.heap[W3.heap.size]?=some (pgO g ka ia ea kc ic ec):=hW4▸aB W3 _;obtain⟨m0,m1,m2,m3,m4,m5,m6,m7⟩:=bH x4;have f4:Fr Bl.none W1 W4:=(Fr.of_below hb3).trans (hW4▸(Fr.refl _ W3).alloc _);have s4:=f4.heap s1 (fun h=>h);obtain⟨sd0,sd1,sd2,sd3,sd4⟩:=dC s4;have s5:=aF (.cells #[.string m.lo,.string m.hi,.int .i64 0,.slice ea g.ents.length ec,.slice none 0 0] 224) s4;obtain⟨se0,se1,se2,se3,se4⟩:=dC s5;have x45:=aF (.cells #[.string m.lo,.string m.hi,.int .i64 0,.slice ea g.ents.length ec,.slice none 0 0] 224) x4;obtain⟨me0,me1,me2,me3,me4,me5,me6,me7⟩:=bH x45;have hKc:=jS g ⟨m.lo,m.hi⟩ ka ia ea kc ic ec (W4.alloc (.cells #[.string m.lo,.string m.hi,.int .i64 0,.slice ea g.ents.length ec,.slice none 0 0] 224)))
  | (refine⟨trivial,rfl,?_⟩;gi_at_call 118;refine(callsIn_wide.2 hKc).mono ?_;clear hKc;rintro e W6 ⟨rfl,y1,y2,hb6⟩))
 clear se0 se1 se2 se3 se4 me0 me1 me2 me3 me4 me5 me6 me7
 obtain⟨W5,hW5⟩:=nM (W4.alloc (.cells #[.string m.lo,.string m.hi,.int .i64 0,.slice ea g.ents.length ec,.slice none 0 0] 224))
 rw [hW5] at y1 y2 hb6 s5 x45
 have x5:W5.heap[W4.heap.size]?=some (.cells #[.string m.lo,.string m.hi,.int .i64 0,.slice ea g.ents.length ec,.slice none 0 0] 224):=hW5▸aB W4 _
 have f5:Fr Bl.none W1 W5:=f4.trans (hW5▸(Fr.refl _ W4).alloc _)
 have z55:W5.heap.size=W4.heap.size+1:=by rw [← hW5];simp
 rw [z55] at y1 y2
 have f6:Fr Bl.none W1 W6:=f5.trans (Fr.of_below hb6)
 have z4:W3.heap.size<W4.heap.size:=(Array.getElem?_eq_some_iff.1 x4).1
 have z45:W4.heap.size<W5.heap.size:=(Array.getElem?_eq_some_iff.1 x5).1
 have z3:=hb3.size
 have z6:W4.heap.size+1+1<W6.heap.size:=(Array.getElem?_eq_some_iff.1 y2).1
 have o36:On (New W1 W3) W3 W6:=((hW4▸(On.refl _ W3).alloc (fun k hk=>hk.2) _:On (New W1 W3) W3 W4).trans (hW5▸(On.refl _ W4).alloc (fun k hk=>by have:=hk.2;omega) _:On (New W1 W3) W4 W5)).trans (On.of_below hb6 (fun k hk=>by have:=hk.2;omega))
 let Rd:Bl:=fun k=>k=W4.heap.size+1∨k=W4.heap.size+1+1∨New W1 W3 k
 have hseq:=lB (W4.heap.size+1+1) (W4.heap.size+1) ⟨m.lo,m.hi⟩ g.kind g.ver g.root g.next ka ia ea kc ic g.ents.length ec g.data g.keys g.kids Rd W6 y2 y1 ((q1.on o36).mono (fun k hk=>.inr (.inr hk))) ((q2.on o36).mono (fun k hk=>.inr (.inr hk))) (.inr (.inl rfl)) (.inl rfl) sm1 sm2 qq.1 qq.2.1
 have hxs:parts ⟨m.lo,m.hi⟩ g.keys g.kids=[]:=by rw [HK.out];cases g.keys<;>rfl
 have HXS:Hid (parts ⟨m.lo,m.hi⟩ g.keys g.kids=[]):=hxs
 clear hxs
 let I:List (Int×Sp)→Bl→World→Prop:=fun pre Y W=>True∧Y=Bl.none
 refine eO (P:=Tryz.prog) (Has:=jV) (Rd:=Rd) rfl (enters_of Tryz.func140 (by kernel_rfl) rfl) hseq (fun x args S W hH=>by rw [hH];rfl) I (fun _ _ _ _=>False) ?_ (fun _ _ _ _ _ h=>h.elim) ?_ (fun _ _ _ _ h=>h.elim) Bl.none ⟨trivial,rfl⟩ ?_ ?_ ?_ (fun _ _ _ _ _ _ _ _ _ h=>h.elim)
 ·rintro pre Y W W' ⟨_,rfl⟩ ho
  exact⟨trivial,rfl⟩
 ·rintro pre Y W ⟨_,rfl⟩ k hk
  exact hk.elim
 ·rintro k (rfl|rfl|hk)
  ·exact⟨fun h=>h,by omega⟩
  ·exact⟨fun h=>h,by omega⟩
  ·exact⟨fun h=>h,by have:=hk.2;omega⟩
 ·intro l pre x rest args S Y' W hx
  rw [HXS.out] at hx
  simp at hx
 ·-- behind the loop
  rintro D Y' W hD hYD ⟨_,rfl⟩ hFW hGW hDW
  have xW:=hFW.heap ((hb6.block _ z45).trans x5) (fun h=>h)
  have rW:=hFW.heap (f6.heap r1 (fun h=>h)) (fun h=>h)
  obtain⟨n0,n1,n2,n3,n4⟩:=dC xW
  obtain⟨b0,b1,b2,b3,b4⟩:=dC rW
  have bfr:=aJ rW
  have hm:Marks w.heap.size [mk D] W:=(Marks.nil w.heap.size W6).cons (fun D' _ h=>hFW.heap h (fun e=>e)) (by have:=B1.size;omega) hDW hD
  have F0:Fr Bl.none w W:=(Fr.of_below B1).trans (f6.trans hFW)
  have zW:W6.heap.size≤W.heap.size:=hFW.size
  have zW1:W1.heap.size≤W6.heap.size:=f6.size
  have qW:aL W (New W1 W3) ea (g.ents.flatMap Ent.cells):=(q3.on o36).on (hFW.on (fun k hk=>⟨by have:=hk.2;omega,fun h=>h⟩))
  have hec:=qq.2.2
  have q3H:Hid (aL W3 (New W1 W3) ea (g.ents.flatMap Ent.cells)):=q3
  have HEC:Hid (es.length≤ec):=by have:=HL.out;show _≤_;omega
  have e3:=aI (aI (aI (aI (aI rW 0 (.string m.lo)) 1 (.string m.hi)) 2 (.int .i64 0)) 3 (.slice ea g.ents.length ec)) 4 (.slice none 0 0)
  clear q1 q2 q3 qW hec qq
  gi_wp2
  obtain⟨WF,hWF⟩:=nM (((((W.setCell ⟨w.heap.size+1+1,0,none⟩ (.string m.lo)).setCell ⟨w.heap.size+1+1,1,none⟩ (.string m.hi)).setCell ⟨w.heap.size+1+1,2,none⟩ (.int .i64 0)).setCell ⟨w.heap.size+1+1,3,none⟩ (.slice ea g.ents.length ec)).setCell ⟨w.heap.size+1+1,4,none⟩ (.slice none 0 0))
  have FF:Fr (Bl.one (w.heap.size+1+1)) W WF:=by
   rw [← hWF]
   exact((((((Fr.refl (Bl.one (w.heap.size+1+1)) W).setCell (p:=⟨w.heap.size+1+1,0,none⟩) (.inl rfl) _).setCell (p:=⟨w.heap.size+1+1,1,none⟩) (.inl rfl) _).setCell (p:=⟨w.heap.size+1+1,2,none⟩) (.inl rfl) _).setCell (p:=⟨w.heap.size+1+1,3,none⟩) (.inl rfl) _).setCell (p:=⟨w.heap.size+1+1,4,none⟩) (.inl rfl) _)
  have xF:WF.heap[w.heap.size+1+1]?=some (.cells #[.string m.lo,.string m.hi,.int .i64 0,.slice ea g.ents.length ec,.slice none 0 0] 224):=by rw [← hWF];simpa using e3
  have hmF:Marks w.heap.size [mk D] WF:=hm.on (fun D' _ h=>FF.heap h (fun e=>by simp only [Bl.one] at e;subst e;rw [rW] at h;simp at h))
  have F0F:Fr Bl.none w WF:=F0.grow FF (fun k hk=>.inr (by simp only [Bl.one] at hk;omega))
  have zr:w.heap.size+1+1<W1.heap.size:=(Array.getElem?_eq_some_iff.1 r1).1
  have QF:aL WF (New w WF) ea (aP es):=by
   have q:=(q3H.out.on o36).on (hFW.on (fun k hk=>⟨by have:=hk.2;omega,fun h=>h⟩))
   have q':=q.on (FF.on (Z:=New W1 W3) (fun k hk=>⟨by have:=hk.2;omega,fun e=>by simp only [Bl.one] at e;have:=hk.1;omega⟩))
   rw [xT HE.out] at q'
   exact q'.mono (fun k hk=>⟨by have:=hk.1;omega,by have:=hk.2;have:=FF.size;omega⟩)
  refine vBg (p:=4) rfl (w.heap.size+1+1) _ _ _ rfl (hWF▸xF) Tryz.underlying224 rfl (by kernel_rfl) (hWF▸hmF) ?_
  intro w' ht'
  rw [hWF] at ht'
  refine⟨ea,ec,by rw [← HL.out],?_,HEC.out,(F0F.took ht' (Nat.le_refl _)).below0⟩
  have hsz:=ht'.size
  exact aL.took (QF.mono (fun k hk=>⟨hk.1,by have:=hk.2;omega⟩)) ht'
end Go.Proofs.YtfnhmpcpeahfkaaGreat.Tree
namespace Go.Proofs.YtfnhmpcpeahfkaaGreat.Tree
open Go.RowKit Pages
variable {fs:Fs} {g:Pg} {k:ByteArray} {p:Nat}
theorem sF {last k:ByteArray} (h:gG last k=true):lt last k=true∧k.size≤24:=by
 unfold gG at h
 simpa [lt] using h
theorem uC:∀ {ks:List ByteArray} {last:ByteArray},fL last ks=true→ks.Pairwise (fun a b=>lt a b=true)∧∀ k∈ks,lt last k=true∧k.size≤24
 | [],_,_=>⟨.nil,by simp⟩
 | k :: r,last,h=>by
  simp only [fL,Bool.and_eq_true] at h
  obtain⟨h1,h2⟩:=sF h.1
  obtain⟨r1,r2⟩:=uC h.2
  refine⟨List.pairwise_cons.2 ⟨fun x hx=>(r2 x hx).1,r1⟩,fun x hx=>?_⟩
  rcases List.mem_cons.1 hx with rfl|hx
  ·exact⟨h1,h2⟩
  ·exact⟨fR h1 (r2 x hx).1,(r2 x hx).2⟩
theorem qBg:∀ {es:List Ent} {last:ByteArray},fJ last es=true→es.Pairwise (fun a b=>lt a.key b.key=true)∧∀ e∈es,lt last e.key=true∧e.key.size≤24∧nI e.val e.size e.over=true
 | [],_,_=>⟨.nil,by simp⟩
 | e :: r,last,h=>by
  simp only [fJ,Bool.and_eq_true] at h
  obtain⟨h1,h2⟩:=sF h.1.1
  obtain⟨r1,r2⟩:=qBg h.2
  refine⟨List.pairwise_cons.2 ⟨fun x hx=>(r2 x hx).1,r1⟩,fun x hx=>?_⟩
  rcases List.mem_cons.1 hx with rfl|hx
  ·exact⟨h1,h2,h.1.2⟩
  ·exact⟨fR h1 (r2 x hx).1,(r2 x hx).2⟩
theorem rL (h:fs.has p g):dO g.kind g.ver g.root g.next g.keys g.kids g.ents g.data=true:=by
 obtain⟨_,_,he,_,rfl⟩:=h
 unfold Pg.encE cH at he
 split at he
 ·rename_i hr
  rw [Bool.and_eq_true] at hr
  exact hr.1
 ·cases he
theorem qOg (h:fs.has p g) (hk:g.kind=2):g.keys.Pairwise (fun a b=>lt a b=true)∧∀ k∈g.keys,lt ⟨#[]⟩ k=true∧k.size≤24:=by
 have hr:=rL h
 unfold dO at hr
 rw [hk] at hr
 simp only [show ¬ ((2:Int)=1) by decide,if_false,if_true,Bool.and_eq_true,gH] at hr
 exact uC hr.2.2
theorem qKn (h:fs.has p g) (hk:g.kind=3):g.ents.Pairwise (fun a b=>lt a.key b.key=true)∧∀ e∈g.ents,lt ⟨#[]⟩ e.key=true∧e.key.size≤24∧nI e.val e.size e.over=true:=by
 have hr:=rL h
 unfold dO at hr
 rw [hk] at hr
 simp only [show ¬ ((3:Int)=1) by decide,show ¬ ((3:Int)=2) by decide,if_false,if_true,Bool.and_eq_true] at hr
 exact qBg hr.2.2
def T.ents:Nat→T→List En
 | _,.leaf _ es=>es
 | 0,.branch _ _ _=>[]
 | h+1,.branch _ _ kids=>kids.flatMap (T.ents h)
theorem qWp {s x:Sp} (h1:le s.lo x.lo=true) (h2:qOf x.hi s.hi=true)  (h:x.has k=true):s.has k=true:=by
 unfold Sp.has at *
 rw [Bool.and_eq_true] at *
 exact⟨aG h1 h.1,qPk h2 h.2⟩
theorem qAn {α:Type}:∀ (s:Sp) (ks:List ByteArray) (kids:List α),kids.length=ks.length+1→ks.Pairwise (fun a b=>lt a b=true)→(∀ k∈ks,lt s.lo k=true∧Sp.below s.hi k=true)→∀ x∈parts s ks kids,le s.lo x.2.lo=true∧qOf x.2.hi s.hi=true
 | s,_,[],hl,_,_=>by simp at hl
 | s,[],k :: kids,hl,_,_=>by
  have:kids=[]:=List.eq_nil_of_length_eq_zero (by simpa using hl)
  subst this
  simp only [parts,List.mem_singleton]
  rintro x rfl
  exact⟨aD _,qTg _⟩
 | s,q :: ks,k :: kids,hl,hp,hb=>by
  obtain⟨hq,hp'⟩:=List.pairwise_cons.1 hp
  obtain⟨b1,b2⟩:=hb q (by simp)
  simp only [parts,List.mem_cons]
  rintro x (rfl|hx)
  ·exact⟨aD _,qDd (k:=q) b2 (fun e=>by rw [e,qWf] at b1;cases b1)⟩
  ·obtain⟨r1,r2⟩:=qAn ⟨q,s.hi⟩ ks kids (by simpa using hl) hp' (fun x hx=>⟨hq x hx,(hb x (by simp [hx])).2⟩) x hx
   exact⟨aG (jI b1) r1,r2⟩
theorem gJ {α:Type}:∀ (s:Sp) (ks:List ByteArray) (kids:List α),(parts s ks kids).map (·.1)=kids
 | _,_,[]=>by simp [parts]
 | s,[],k :: kids=>by simp [parts,gJ ⟨s.hi,s.hi⟩ [] kids]
 | s,q :: ks,k :: kids=>by simp [parts,gJ ⟨q,s.hi⟩ ks kids]
theorem fC {h p:Nat} {ks:List ByteArray} {kids:List T} {s:Sp} (ht:aX fs (h+1) (.branch p ks kids) s):kids.length=ks.length+1∧ks.Pairwise (fun a b=>lt a b=true)∧(∀ k∈ks,lt s.lo k=true∧Sp.below s.hi k=true)∧(∀ k∈ks,k.size≤24)∧∀ x∈parts s ks kids,aX fs h x.1 x.2:=by
 obtain⟨g,hg,hk,hks,_,hlen,⟨h0,c1,c2⟩,hall⟩:=ht
 obtain⟨r1,r2⟩:=qOg hg hk
 rw [hks] at r1 r2
 refine⟨hlen,r1,fun k hkm=>?_,fun k hkm=>(r2 k hkm).2,hall⟩
 obtain⟨i,hi,rfl⟩:=List.getElem_of_mem hkm
 have hp:=List.pairwise_iff_getElem.1 r1
 constructor
 ·rcases Nat.eq_zero_or_pos i with rfl|hi0
  ·exact c1
  ·exact fR c1 (hp 0 i h0 hi hi0)
 ·unfold Sp.has at c2
  rw [Bool.and_eq_true] at c2
  by_cases hl:i=ks.length-1
  ·subst hl;exact c2.2
  ·exact below_le (jI (hp i (ks.length-1) hi (by omega) (by omega))) c2.2
theorem rO:∀ {h:Nat} {t:T} {s:Sp},aX fs h t s→∀ e∈T.ents h t,s.has e.e.key=true
 | 0,.leaf p es,s,ht,e,he=>by obtain⟨g,_,_,_,_,h5,_⟩:=ht;exact h5 e he
 | 0,.branch _ _ _,s,ht,e,he=>by simp [T.ents] at he
 | h+1,.leaf _ _,s,ht,e,he=>by simp [aX] at ht
 | h+1,.branch p ks kids,s,ht,e,he=>by
  obtain⟨hl,hp,hb,_,hall⟩:=fC ht
  simp only [T.ents,List.mem_flatMap] at he
  obtain⟨k,hk,he⟩:=he
  have:k∈(parts s ks kids).map (·.1):=by rw [gJ];exact hk
  obtain⟨x,hx,rfl⟩:=List.mem_map.1 this
  obtain⟨r1,r2⟩:=qAn s ks kids hl hp hb x hx
  exact qWp r1 r2 (rO (hall x hx) e he)
theorem qWd {x q:Sp}  (h1:x.has k=true) (h2:q.has k=true):x.meets q=true:=by
 unfold Sp.has at h1 h2
 unfold Sp.meets
 rw [Bool.and_eq_true] at *
 exact⟨below_le h2.1 h1.2,below_le h1.1 h2.2⟩
theorem qJb (q:Sp):∀ {h:Nat} {t:T} {s:Sp},aX fs h t s→iE q (lvs h t s q)=(T.ents h t).filter (fun x=>q.has x.e.key)
 | 0,.leaf p es,s,ht=>by simp [iE,lvs,T.ents]
 | 0,.branch _ _ _,s,ht=>by simp [iE,lvs,T.ents]
 | h+1,.leaf _ _,s,ht=>by simp [aX] at ht
 | h+1,.branch p ks kids,s,ht=>by
  obtain⟨hl,hp,hb,_,hall⟩:=fC ht
  have key:∀ (l:List (T×Sp)),(∀ x∈l,aX fs h x.1 x.2)→iE q (l.flatMap (fun x=>if x.2.meets q=true then lvs h x.1 x.2 q else []))=((l.map (·.1)).flatMap (T.ents h)).filter (fun x=>q.has x.e.key):=by
   intro l hl
   induction l with
   | nil=>rfl
   | cons x l ih =>
    have hx:=hl x (by simp)
    have e1:iE q (if x.2.meets q=true then lvs h x.1 x.2 q else [])=(T.ents h x.1).filter (fun x=>q.has x.e.key):=by
     split
     ·exact qJb q hx
     ·rename_i hm
      symm
      rw [show iE q []=[] from rfl,List.filter_eq_nil_iff]
      intro e he hq
      exact hm (qWd (rO hx e he) hq)
    rw [List.map_cons,List.flatMap_cons,List.flatMap_cons,List.filter_append,← ih (fun y hy=>hl y (by simp [hy])),← e1]
    unfold iE
    rw [List.flatMap_append]
  simp only [lvs,T.ents]
  rw [key _ hall,gJ]
end Go.Proofs.YtfnhmpcpeahfkaaGreat.Tree
