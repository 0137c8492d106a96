import Derived.Test.YtpifffkkgnbfpaaGreatQ19
set_option linter.unusedSimpArgs false
set_option linter.unusedVariables false
set_option maxRecDepth 100000
set_option maxHeartbeats 8000000
namespace Go.Proofs.YtpifffkkgnbfpaaGreat.Tree
open Go.RowKit Pages
variable {B:Nat} {S:Bl} {e:TypeId} {m:MN} {ms:List MN} {w w':World} {xs:List Value}
theorem dB {W a wn:World} (hJ:Below B W a) (hW:B≤W.heap.size) (hbn:Below a.heap.size a wn):Below B W wn:=hJ.trans (hbn.mono (vJ hW hJ.size))
theorem uF (m:MN) (es:List En) (ms:List MN) (S:Bl) (w:World) (he:m.en=es.length) (hk:m.kn=ms.length) (hec:es.length≤m.ec) (hkc:ms.length≤m.kc) (hR:aH w S m.ea (aN es)) (hN:aH w S m.ka (aL ms)) (hS:∀ b,S b→b<w.heap.size) (hn:es.length≤1000000) (hn2:ms.length≤1000000) (hf:∀ x∈es,x.fits) (hf2:∀ x∈ms,x.fits) :
  Calls Tryz.prog 186 #[m.val] w fun e w'=>e=.returned (.bool (m.place==0&&decide (tot esz es+tot ksz ms<62)))∧Below w.heap.size w w':=by
 obtain⟨lo,hi,pl,ea,en,ec,ka,kn,kc⟩:=m
 simp only at he hk hec hkc hR hN
 subst he hk
 obtain⟨W1,hW1⟩:=nM (w.alloc (.cells #[.string lo,.string hi,.int .i64 pl,.slice ea es.length ec,.slice ka ms.length kc] 224))
 have b1:Below w.heap.size w W1:=hW1▸(bA _ _)
 have x1:W1.heap[w.heap.size]?=some (.cells #[.string lo,.string hi,.int .i64 pl,.slice ea es.length ec,.slice ka ms.length kc] 224):=hW1▸aA w _
 obtain⟨m0,m1,m2,m3,m4⟩:=eE x1
 have z1:=(gL x1)
 have hte:tot esz es≤427000000:=by have:=qK esz es 427 (fun x hx=>oT (hf x hx));omega
 have htk:tot ksz ms≤27000000:=by have:=qK ksz ms 27 (fun x hx=>oL (hf2 x hx));omega
 have hS1:∀ b,S b→b<W1.heap.size:=fun b h=>jY (hS b h) b1.size
 have hA:∀ W,Below w.heap.size w W→Calls Tryz.prog 183 #[.slice ea es.length ec,.func (.func 174) #[] #[]] W fun e w'=>e=.returned (.int .i64 (tot esz es))∧Below W.heap.size W w':=fun W hW=>Ar ea ec es S W (hR.on (vV hW hS)) (fun b h=>jY (hS b h) hW.size) hn hec hf
 have hB:∀ W,Below w.heap.size w W→Calls Tryz.prog 188 #[.slice ka ms.length kc,.func (.func 179) #[] #[]] W fun e w'=>e=.returned (.int .i64 (tot ksz ms))∧Below W.heap.size W w':=fun W hW=>Aq ka kc ms S W (hN.on (vV hW hS)) (fun b h=>jY (hS b h) hW.size) hn2 hkc hf2
 obtain⟨te,hte'⟩:∃ te,tot esz es=te:=⟨_,rfl⟩
 obtain⟨tk,htk'⟩:∃ tk,tot ksz ms=tk:=⟨_,rfl⟩
 simp only [hte',htk'] at hte htk hA hB ⊢
 clear hte' htk'
 have hA':=hA
 have hB':=hB
 clear hA hB
 have hJw:∀ W,Below (w.heap.size+1) W1 W→Below w.heap.size w W:=fun W h=>b1.trans (h.mono (Nat.le_succ _))
 have hA:=fun W h=>hA' W (hJw W h)
 have hB:=fun W h=>hB' W (hJw W h)
 clear hA' hB'
 have hWz:w.heap.size+1≤W1.heap.size:=z1
 have hJ:Below (w.heap.size+1) W1 W1:=Below.refl _ _
 go_enter Tryz.func186,Tryz.ntmps186
 by_cases hp:pl=0
 ·have hpb:((pl:Int)==0)=true:=by simp [hp]
  have hpc:(pl==0)=true:=by simp [hp]
  clear hp
  by_cases hlt:te+tk<62
  ·have HW:Hid (decide (IntKind.i64.wrap ((te:Int)+(tk:Int))<62)=true):=by show _=_;rw [IntKind.wrap_i64,decide_eq_true_iff];· omega
   have HD:Hid ((pl==0&&decide (te+tk<62))=true):=by show _=_;simp [hpc,hlt]
   go_wp2
   go_region_with (first|(go_at_call 183;refine(hA _ (by first|exact hJ|exact hJ.drew|exact hJ.drew.drew)).mono ?_;rintro e wn ⟨rfl,hbn⟩;have hJ:Below (w.heap.size+1) W1 wn:=(by first|exact dB hJ hWz hbn|exact dB hJ.drew hWz hbn|exact dB hJ.drew.drew hWz hbn);obtain⟨e0,e1,e2,e3,e4⟩:=eE ((hJ.block w.heap.size (Nat.lt_succ_self _)).trans x1))|(go_at_call 188;refine(hB _ (by first|exact hJ|exact hJ.drew|exact hJ.drew.drew)).mono ?_;rintro e wn ⟨rfl,hbn⟩;have hJ:Below (w.heap.size+1) W1 wn:=(by first|exact dB hJ hWz hbn|exact dB hJ.drew hWz hbn|exact dB hJ.drew.drew hWz hbn);obtain⟨e0,e1,e2,e3,e4⟩:=eE ((hJ.block w.heap.size (Nat.lt_succ_self _)).trans x1)))
   all_goals go_wp2
   all_goals go_ret
   all_goals exact⟨by rw [HD.out];exact congrArg (fun b=>Ending.returned (Value.bool b)) HW.out,hJw _ (by first|exact hJ|exact hJ.drew|exact hJ.drew.drew)⟩
  ·have HW:Hid (decide (IntKind.i64.wrap ((te:Int)+(tk:Int))<62)=false):=by show _=_;rw [IntKind.wrap_i64,decide_eq_false_iff_not];· omega
   have HD:Hid ((pl==0&&decide (te+tk<62))=false):=by show _=_;simp [hpc,hlt]
   go_wp2
   go_region_with (first|(go_at_call 183;refine(hA _ (by first|exact hJ|exact hJ.drew|exact hJ.drew.drew)).mono ?_;rintro e wn ⟨rfl,hbn⟩;have hJ:Below (w.heap.size+1) W1 wn:=(by first|exact dB hJ hWz hbn|exact dB hJ.drew hWz hbn|exact dB hJ.drew.drew hWz hbn);obtain⟨e0,e1,e2,e3,e4⟩:=eE ((hJ.block w.heap.size (Nat.lt_succ_self _)).trans x1))|(go_at_call 188;refine(hB _ (by first|exact hJ|exact hJ.drew|exact hJ.drew.drew)).mono ?_;rintro e wn ⟨rfl,hbn⟩;have hJ:Below (w.heap.size+1) W1 wn:=(by first|exact dB hJ hWz hbn|exact dB hJ.drew hWz hbn|exact dB hJ.drew.drew hWz hbn);obtain⟨e0,e1,e2,e3,e4⟩:=eE ((hJ.block w.heap.size (Nat.lt_succ_self _)).trans x1)))
   all_goals go_wp2
   all_goals go_ret
   all_goals exact⟨by rw [HD.out];exact congrArg (fun b=>Ending.returned (Value.bool b)) HW.out,hJw _ (by first|exact hJ|exact hJ.drew|exact hJ.drew.drew)⟩
 ·have hpb:((pl:Int)==0)=false:=by simp [hp]
  have HD:Hid ((pl==0&&decide (te+tk<62))=false):=by show _=_;simp [hp]
  clear hp
  go_wp2
  go_region
  all_goals go_wp2
  all_goals go_ret
  all_goals exact⟨by rw [HD.out];rfl,hJw _ (by first|exact hJ|exact hJ.drew|exact hJ.drew.drew)⟩
theorem Iw {z g n c:Nat}  (h:w.ownsRow B e z (.slice (some ⟨g,0,none⟩) n c) n xs) {m:Nat} (hm:m≤n):w.ownsRow B e z (.slice (some ⟨g,0,none⟩) m c) m (xs.take (m * z)):=by
 obtain⟨h1,h2⟩:=h
 have hmz:m * z≤n * z:=Nat.mul_le_mul_right z hm
 refine⟨by rw [List.length_take,h1];omega,?_⟩
 rcases h2 with⟨h3,_⟩|⟨g',c',cur,h3,hb,hg,hnc,hcm,hcs,htake⟩
 ·simp at h3
 ·simp only [Value.slice.injEq,Option.some.injEq,Addr.mk.injEq,and_true,true_and] at h3
  obtain⟨rfl,rfl⟩:=h3
  refine .inr ⟨g,c,cur,rfl,hb,hg,by omega,hcm,hcs,?_⟩
  rw [← htake,List.take_take,Nat.min_eq_left hmz]
inductive Nd where
 | mk (s:Sp) (place:Nat) (es:List En) (kids:List Nd)
def Nd.sp:Nd→Sp|.mk s _ _ _=>s
def Nd.kids:Nd→List Nd|.mk _ _ _ ks=>ks
variable {n:Nd} {ns:List Nd}
inductive gV (w:World) (S:Bl):Nd→MN→Prop
 | mk (s:Sp) (place:Nat) (es:List En) (kids:List Nd) (m:MN) (ms:List MN) (h1:m.lo=s.lo) (h2:m.hi=s.hi) (h3:m.place=place) (h4:m.en=es.length) (h5:m.kn=kids.length) (h6:es.length≤m.ec) (h7:kids.length≤m.kc)
   (h8:aH w S m.ea (aN es)) (h9:aH w S m.ka (aL ms)) (h10:ms.length=kids.length) (h11:∀ (i:Nat) (k:Nd) (x:MN),kids[i]?=some k→ms[i]?=some x→gV w S k x):gV w S (.mk s place es kids) m
theorem gV.on (h:gV w S n m) (ho:On S w w'):gV w' S n m:=by
 induction h with
 | mk s place es kids m ms h1 h2 h3 h4 h5 h6 h7 h8 h9 h10 h11 ih=>exact .mk s place es kids m ms h1 h2 h3 h4 h5 h6 h7 (h8.on ho) (h9.on ho) h10 ih
theorem gV.mono {S S':Bl}   (h:gV w S n m) (hs:∀ k,S k→S' k):gV w S' n m:=by
 induction h with
 | mk s place es kids m ms h1 h2 h3 h4 h5 h6 h7 h8 h9 h10 h11 ih=>exact .mk s place es kids m ms h1 h2 h3 h4 h5 h6 h7 (h8.mono hs) (h9.mono hs) h10 ih
def bO (w:World) (S:Bl) (ns:List Nd) (ms:List MN):Prop:=ms.length=ns.length∧∀ (i:Nat) (k:Nd) (x:MN),ns[i]?=some k→ms[i]?=some x→gV w S k x
theorem bO.on (h:bO w S ns ms) (ho:On S w w'):bO w' S ns ms:=⟨h.1,fun i k x a b=>(h.2 i k x a b).on ho⟩
theorem bO.mono {S S':Bl}   (h:bO w S ns ms) (hs:∀ k,S k→S' k):bO w S' ns ms:=⟨h.1,fun i k x a b=>(h.2 i k x a b).mono hs⟩
theorem bO.nil (w:World) (S:Bl):bO w S [] []:=⟨rfl,fun i k x a _=>by simp at a⟩
theorem bO.append {ns ns':List Nd} {ms ms':List MN} (h:bO w S ns ms) (h':bO w S ns' ms'):bO w S (ns++ns') (ms++ms'):=by
 refine⟨by rw [jK,jK,h.1,h'.1],fun i k x a b=>?_⟩
 by_cases hi:i<ns.length
 ·rw [List.getElem?_append_left hi] at a
  rw [List.getElem?_append_left (by rw [h.1];exact hi)] at b
  exact h.2 i k x a b
 ·rw [List.getElem?_append_right (by omega)] at a
  rw [List.getElem?_append_right (by rw [h.1];omega),h.1] at b
  exact h'.2 _ k x a b
theorem bO.take (h:bO w S ns ms) (n:Nat):bO w S (ns.take n) (ms.take n):=by
 refine⟨by rw [List.length_take,List.length_take,h.1],fun i k x a b=>?_⟩
 rw [List.getElem?_take] at a b
 split at a
 ·rename_i hi
  rw [if_pos hi] at b
  exact h.2 i k x a b
 ·simp at a
theorem bO.drop (h:bO w S ns ms) (n:Nat):bO w S (ns.drop n) (ms.drop n):=by
 refine⟨by rw [List.length_drop,List.length_drop,h.1],fun i k x a b=>?_⟩
 rw [List.getElem?_drop] at a b
 exact h.2 _ k x a b
theorem bO.one (h:gV w S n m):bO w S [n] [m]:=⟨rfl,fun i k x a b=>by
 cases i with
 | zero=>simp at a b;subst a b;exact h
 | succ i=>simp at a⟩
def wN (es:List En):Nd:=.mk ⟨iR es,⟨#[]⟩⟩ 0 es []
theorem qCh {q:Pc En} (h1:q.l.length≤q.c) (h2:aH w S q.a (aN q.l)):gV w S (wN q.l) (kB q) :=
 .mk _ 0 q.l [] (kB q) [] rfl rfl rfl rfl rfl h1 (Nat.zero_le _) h2 (.inl rfl) rfl (fun i k x a _=>by simp at a)
theorem wM {qs:List (Pc En)} (h:∀ q∈qs,q.l.length≤q.c∧aH w S q.a (aN q.l)):bO w S ((qs.map (·.l)).map wN) (qs.map kB):=by
 refine⟨by simp,fun i k x a b=>?_⟩
 rw [List.map_map,List.getElem?_map] at a
 rw [List.getElem?_map] at b
 cases hq:qs[i]? with
 | none=>rw [hq] at a;simp at a
 | some q =>
  rw [hq] at a b
  simp at a b
  subst a b
  have:=h q (List.mem_of_getElem? hq)
  exact qCh this.1 this.2
def Mx (ns:List Nd):ByteArray:=match ns with|[]=>⟨#[]⟩|n :: _=>n.sp.lo
def iI (ks:List Nd):Nd:=.mk ⟨Mx ks,⟨#[]⟩⟩ 0 [] ks
theorem gV.lo (h:gV w S n m):m.lo=n.sp.lo:=by cases h;assumption
theorem bO.first (h:bO w S ns ms):Ac ms=Mx ns:=by
 cases ns with
 | nil=>have:=List.eq_nil_of_length_eq_zero (h.1.trans rfl);subst this;rfl
 | cons n ns =>
  cases ms with
  | nil=>have:=h.1;simp at this
  | cons m ms=>exact(h.2 0 n m rfl rfl).lo
theorem qCz {q:Pc MN} {ks:List Nd} (h1:q.l.length≤q.c) (h2:aH w S q.a (aL q.l)) (h3:bO w S ks q.l):gV w S (iI ks) (kM q) :=
 .mk _ 0 [] ks (kM q) q.l h3.first rfl rfl rfl h3.1 (Nat.zero_le _) (by rw [← h3.1];exact h1) (.inl rfl) h2 h3.1 h3.2
def sS (n:Nd):Nat:=n.sp.lo.size+3
theorem Ve (h:bO w S ns ms):ns.map sS=ms.map ksz:=by
 apply List.ext_getElem?
 intro i
 rw [List.getElem?_map,List.getElem?_map]
 cases hn:ns[i]? with
 | none =>
  have:ms[i]?=none:=by
   rw [List.getElem?_eq_none_iff] at hn ⊢
   rw [h.1];exact hn
  rw [this];rfl
 | some n =>
  have hi:=(List.getElem?_eq_some_iff.1 hn).1
  have hm:ms[i]?=some (ms[i]'(by rw [h.1];exact hi)):=jQ _
  rw [hm]
  have:=(h.2 i n _ hn hm).lo
  simp [sS,ksz,this]
theorem zM {α:Type} (sz:α→Nat) (l:List α):tot sz l=(l.map sz).sum:=rfl
theorem Sl {α β:Type} (f:α→Nat) (g:β→Nat) (aim:Nat):∀ (l:List α) (m:List β) (c:Nat),l.map f=m.map g→shN f aim l c=shN g aim m c
 | [],[],_,_=>rfl
 | [],_ :: _,_,h=>by simp at h
 | _ :: _,[],_,h=>by simp at h
 | x :: l,y :: m,c,h=>by
  simp only [List.map_cons,List.cons.injEq] at h
  simp only [shN,h.1,Sl f g aim l m _ h.2]
theorem Sv:∀ (k:Nat) (ns:List Nd) (ms:List MN),bO w S ns ms→(mO sS k ns).length=(mO ksz k ms).length∧∀ (i:Nat) (p:List Nd) (q:List MN),(mO sS k ns)[i]?=some p→(mO ksz k ms)[i]?=some q→bO w S p q
 | 0,ns,ms,h=>⟨rfl,fun i p q a _=>by simp [mO] at a⟩
 | k+1,ns,ms,h=>by
  have hs:=Ve h
  have ht:tot sS ns=tot ksz ms:=by rw [zM,zM,hs]
  have hsh:shN sS (tot ksz ms) ns 0=shN ksz (tot ksz ms) ms 0:=Sl _ _ _ _ _ _ hs
  simp only [mO,ht,hsh,← h.1]
  split
  ·split
   ·exact⟨rfl,fun i p q a _=>by simp at a⟩
   ·refine⟨rfl,fun i p q a b=>?_⟩
    cases i with
    | zero=>simp at a b;subst a b;exact h
    | succ i=>simp at a
  ·obtain⟨r1,r2⟩:=Sv k _ _ (h.drop (shN ksz (tot ksz ms) ms 0))
   refine⟨by rw [jB,jB,r1],fun i p q a b=>?_⟩
   cases i with
   | zero=>simp at a b;subst a b;exact h.take _
   | succ i=>simp only [List.getElem?_cons_succ] at a b;exact r2 i p q a b
theorem Zg (h:bO w S ns ms):(eC sS ns).length=(eC ksz ms).length∧∀ (i:Nat) (p:List Nd) (q:List MN),(eC sS ns)[i]?=some p→(eC ksz ms)[i]?=some q→bO w S p q:=by
 unfold eC;rw [h.1];exact Sv _ ns ms h
theorem Oe {w w':World}    {qs:List (Pc MN)} (h:bO w' S ns ms) (hq:qs.map (·.l)=eC ksz ms) (hr:∀ q∈qs,q.l.length≤q.c∧aH w' S q.a (aL q.l)):bO w' S ((eC sS ns).map iI) (qs.map kM):=by
 obtain⟨h1,h2⟩:=Zg h
 have hl:qs.length=(eC ksz ms).length:=by rw [← hq];simp
 refine⟨by rw [List.length_map,List.length_map,h1,hl],fun i k x a b=>?_⟩
 rw [List.getElem?_map] at a b
 cases hp:(eC sS ns)[i]? with
 | none=>rw [hp] at a;simp at a
 | some p =>
  cases hx:qs[i]? with
  | none=>rw [hx] at b;simp at b
  | some q =>
   rw [hp] at a
   rw [hx] at b
   simp at a b
   subst a b
   have hql:(eC ksz ms)[i]?=some q.l:=by rw [← hq,List.getElem?_map,hx];rfl
   have:=hr q (List.mem_of_getElem? hx)
   exact qCz this.1 this.2 (h2 i p q.l hp hql)
theorem eI {z g n c:Nat}  (h:w.ownsRow B e z (.slice (some ⟨g,0,none⟩) n c) n xs) (k:Nat) (hk:k<xs.length) (u:Value):(w.setCell ⟨g,k,none⟩ u).ownsRow B e z (.slice (some ⟨g,0,none⟩) n c) n (xs.set k u):=by
 obtain⟨h1,h2⟩:=h
 refine⟨by rw [List.length_set];exact h1,?_⟩
 rcases h2 with⟨h3,_⟩|⟨g',c',cur,h3,hb,hg,hnc,hcm,hcs,htake⟩
 ·simp at h3
 ·simp only [Value.slice.injEq,Option.some.injEq,Addr.mk.injEq,and_true,true_and] at h3
  obtain⟨rfl,rfl⟩:=h3
  refine .inr ⟨g,c,_,rfl,hb,aF hg k u,hnc,hcm,by simpa using hcs,?_⟩
  rw [Array.toList_setIfInBounds,List.take_set,htake]
theorem Lk {z g n c:Nat}  {a0 a1 a2 a3 a4:Value} (h:w.ownsRow B e z (.slice (some ⟨g,0,none⟩) n c) n (xs++[a0,a1,a2,a3,a4])) (k:Nat) (hk:xs.length=k) (m:MN) :
  (((((w.setCell ⟨g,k,none⟩ (.string m.lo)).setCell ⟨g,k+1,none⟩ (.string m.hi)).setCell ⟨g,k+2,none⟩ (.int .i64 m.place)).setCell ⟨g,k+3,none⟩ (.slice m.ea m.en m.ec)).setCell ⟨g,k+4,none⟩ (.slice m.ka m.kn m.kc)).ownsRow B e z (.slice (some ⟨g,0,none⟩) n c) n (xs++m.cells):=by
 subst hk
 have e0:=eI h xs.length (by simp) (.string m.lo)
 have e1:=eI e0 (xs.length+1) (by simp) (.string m.hi)
 have e2:=eI e1 (xs.length+2) (by simp) (.int .i64 m.place)
 have e3:=eI e2 (xs.length+3) (by simp) (.slice m.ea m.en m.ec)
 have e4:=eI e3 (xs.length+4) (by simp) (.slice m.ka m.kn m.kc)
 simpa [List.set_append,MN.cells] using e4
open Go.Shelf
attribute [local go_sem] Oper.semAt_some
def chE (c:Ch):En:=⟨⟨c.key,c.val,c.val.size,0⟩,[]⟩
def cW (cs:List Ch):List En:=(cs.filter (fun c=>!c.gone)).map chE
theorem Oz (cs:List Ch) (j:Nat) (h:j<cs.length):cW (cs.take (j+1))=cW (cs.take j)++(if cs[j].gone=true then [] else [chE cs[j]]):=by
 unfold cW
 rw [yM _ cs j h,List.map_append]
 cases cs[j].gone<;>rfl
theorem Ki (cs:List Ch) (j:Nat) (h:j<cs.length) (hg:cs[j].gone=false):cW cs=cW (cs.take j)++chE cs[j] :: cW (cs.drop (j+1)):=by
 unfold cW
 conv=>lhs;rw [← List.take_append_drop j cs,List.filter_append,List.drop_eq_getElem_cons h,List.filter_cons]
 simp [hg]
theorem Ip {w:World} {b i:Nat} {cs:Array Value} {e:TypeId} {v:Value} (h:w.heap[b]?=some (.cells cs e)) (hv:cs[i]?=some v):w.setCell ⟨b,i,none⟩ v=w:=by
 have hh:(w.setCell ⟨b,i,none⟩ v).heap=w.heap:=by
  apply Array.ext
  ·simp [World.setCell]
  ·intro k h1 h2
   by_cases hk:k=b
   ·subst hk
    have a1:=aF h i v
    have a2:cs.setIfInBounds i v=cs:=by
     obtain⟨hi,hvi⟩:=jJ.1 hv
     apply Array.ext
     ·simp
     ·intro m m1 m2
      rw [Array.getElem_setIfInBounds (by simpa using m1)]
      split
      ·subst_vars;rfl
      ·rfl
    rw [a2,← h] at a1
    rw [Array.getElem?_eq_getElem h1,Array.getElem?_eq_getElem h2] at a1
    exact Option.some.inj a1
   ·have:=Below.heap_setCell w ⟨b,i,none⟩ v k hk
    rw [Array.getElem?_eq_getElem h1,Array.getElem?_eq_getElem h2] at this
    exact Option.some.inj this
 cases w
 simp only [World.setCell] at hh ⊢
 rw [hh]
theorem Ho (c:Ch) (w:World) :
  Calls Tryz.prog 73 #[.agg #[.string c.key,.string c.val,.bool c.gone]] w fun e w'=>e=.returned (.agg #[.string c.key,.string c.val,.int .i64 c.val.size,.int .i64 0])∧Below w.heap.size w w':=by
 obtain⟨W1,hW1⟩:=nM (w.alloc (.cells #[.string c.key,.string c.val,.bool c.gone] 106))
 obtain⟨W2,hW2⟩:=nM (W1.alloc (.cells #[.string ⟨#[]⟩,.string ⟨#[]⟩,.int .i64 0,.int .i64 0] 108))
 have z1:W1.heap.size=w.heap.size+1:=by rw [← hW1];simp
 have x1:W1.heap[w.heap.size]?=some (.cells #[.string c.key,.string c.val,.bool c.gone] 106):=hW1▸aA w _
 have x2:W2.heap[w.heap.size]?=some (.cells #[.string c.key,.string c.val,.bool c.gone] 106):=hW2▸aB _ x1
 have e2:W2.heap[w.heap.size+1]?=some (.cells #[.string ⟨#[]⟩,.string ⟨#[]⟩,.int .i64 0,.int .i64 0] 108):=by rw [← z1];exact hW2▸aA W1 _
 obtain⟨a0,a1,a2⟩:=eR x2
 obtain⟨b0,b1,b2,b3⟩:=iA e2
 have bfr:=aD e2
 have e3:=aF (aF (aF (aF e2 0 (.string c.key)) 1 (.string c.val)) 2 (.int .i64 c.val.size)) 3 (.int .i64 0)
 obtain⟨d0,d1,d2,d3⟩:=iA (w:=(((W2.setCell ⟨w.heap.size+1,0,none⟩ (.string c.key)).setCell ⟨w.heap.size+1,1,none⟩ (.string c.val)).setCell ⟨w.heap.size+1,2,none⟩ (.int .i64 c.val.size)).setCell ⟨w.heap.size+1,3,none⟩ (.int .i64 0)) (by simpa using e3)
 have HB:Hid (Below w.heap.size w ((((W2.setCell ⟨w.heap.size+1,0,none⟩ (.string c.key)).setCell ⟨w.heap.size+1,1,none⟩ (.string c.val)).setCell ⟨w.heap.size+1,2,none⟩ (.int .i64 c.val.size)).setCell ⟨w.heap.size+1,3,none⟩ (.int .i64 0))):=by
  have h0:Below w.heap.size w W2:=by rw [← hW2,← hW1];exact(bA _ _).alloc (by simp) _
  exact(((h0.setCell (p:=⟨w.heap.size+1,0,none⟩) (by simp) _).setCell (p:=⟨w.heap.size+1,1,none⟩) (by simp) _).setCell (p:=⟨w.heap.size+1,2,none⟩) (by simp) _).setCell (p:=⟨w.heap.size+1,3,none⟩) (by simp) _
 clear x1 x2 e2 e3
 go_enter Tryz.func73,Tryz.ntmps73
 go_wp2
 refine bodyPost_ret (v:=.agg #[.string c.key,.string c.val,.int .i64 c.val.size,.int .i64 0]) ?_ rfl ⟨rfl,HB.out⟩
 simp [results,Tryz.results73,go_sem,d0,d1,d2,d3]
def qDp (J Jx:List En→Bl→World→Prop) (xs pre ts:List En) (Y:Bl) (W:World) (e:Ending) (W':World):Prop :=
 (e=.returned (.bool true)∧∃ Y',J (pre++ts) Y' W'∧Fr Y W W'∧aI W Y Y') ∨
 (e=.returned (.bool false)∧∃ Y' pp,pp <+: xs∧pp≠[]∧Jx pp Y' W'∧Fr Y W W'∧aI W Y Y')
theorem Kh (l:Nat) (xs:List En) (J Jx:List En→Bl→World→Prop) (sJ:qD J) (lJ:Jt J) (Y₀:Bl) (W₀:World)
  (hY:∀ pre x rest args S Y' W',xs=pre++x :: rest→J pre Y' W'→pD x args S W'→(∀ k,S k→¬ Y' k∧k<W'.heap.size)→Fr Y₀ W₀ W'→aI W₀ Y₀ Y'→YieldAt Fence.wide 0 Tryz.prog l args W' (qBk J Jx (pre++[x]) Y' W'))
  (ca:Option Addr) (cc:Nat) (cs:List Ch) (S:Bl) (pre post:List En) (Y:Bl) (W:World) (hx:xs=pre++(cW cs++post)) (hR:aH W S ca (cs.flatMap Ch.cells)) (hS:∀ b,S b→¬ Y b∧b<W.heap.size) (hn:cs.length≤1000000) (hc:cs.length≤cc)
  (h0:J pre Y W) (hF:Fr Y₀ W₀ W) (hG:aI W₀ Y₀ Y) :
  CallsIn Fence.wide 0 Tryz.prog 149 #[.slice ca cs.length cc,.func (.yield l) #[] #[]] W (qDp J Jx xs pre (cW cs) Y W):=by
 refine callsIn_of_wp Tryz.func149 rfl trivial ?_ rfl
 simp only [Tryz.ntmps149,jA,jB,jN,Nat.reduceAdd,Nat.reduceSub,jR,jO,jP,jT,jE,jF]
 have HX:Hid (xs=pre++(cW cs++post)):=hx
 clear hx
 gi_wp2
 gi_loopw [9] (fun i wr=>∃ (j:Nat) (Yr:Bl),j≤cs.length∧i=.int .i64 j∧J (pre++cW (cs.take j)) Yr wr∧Fr Y W wr∧aI W Y Yr) (fun i _=>cs.length-(intOf i).toNat)
 case atStart=>exact⟨0,Y,Nat.zero_le _,rfl,by simpa [cW] using h0,Fr.refl _ _,aI.refl _ _⟩
 case round =>
  obtain⟨j,Yr,hj,rfl,hJr,hFr,hGr⟩:=hrel
  have zr:=hFr.size
  have lYr:=lJ _ _ _ hJr
  by_cases hlt:j<cs.length
  ·obtain⟨rb,ro,hca,hrb,k0,k1,k2⟩:=(hR.on (hFr.on (fun k hk=>⟨(hS k hk).2,(hS k hk).1⟩))).ch hlt
   subst hca
   obtain⟨c,hcj⟩:=nM (cs[j])
   rw [hcj] at k0 k1 k2
   have HT:Hid (cW (cs.take (j+1))=cW (cs.take j)++(if c.gone=true then [] else [chE c])):=by show _=_;rw [Oz cs j hlt,hcj]
   have HSP:Hid (c.gone=false→cW cs=cW (cs.take j)++chE c :: cW (cs.drop (j+1))):=by
    intro hg
    have:=Ki cs j hlt (by rw [hcj];exact hg)
    rw [hcj] at this;exact this
   obtain⟨Wa,hWa⟩:=nM (wr.alloc (.cells #[.string c.key,.string c.val,.bool c.gone] 106))
   have xa:Wa.heap[wr.heap.size]?=some (.cells #[.string c.key,.string c.val,.bool c.gone] 106):=hWa▸aA wr _
   obtain⟨g0,g1,g2⟩:=eR xa
   have fa:Fr Bl.none wr Wa:=hWa▸(Fr.refl _ wr).alloc _
   have gfr:=aD xa
   have hE:=Ho c Wa
   clear hcj hR
   cases hg:c.gone
   ·have hpp:xs=(pre++cW (cs.take j))++chE c :: (cW (cs.drop (j+1))++post):=by rw [HX.out,HSP.out hg];simp
    have HP:Hid (xs=(pre++cW (cs.take j))++chE c :: (cW (cs.drop (j+1))++post)):=hpp
    clear hpp
    rw [hg] at g2 k2 hE hWa xa
    have hsame:=Ip (i:=2) xa (v:=.bool false) rfl
    gi_wp2_with (refine⟨trivial,rfl,?_⟩;gi_at_call 73;refine(callsIn_wide.2 hE).mono ?_;clear hE;rintro e Wb ⟨rfl,hbb⟩;have fb:Fr Bl.none wr Wb:=fa.trans (Fr.of_below hbb);have hJb:=sJ _ _ _ _ hJr (fb.on (fun k hk=>⟨lYr k hk,fun h=>h⟩));obtain⟨fn,tmps,assign,body,hy,hRr⟩:=hY _ (chE c) _ #[.agg #[.string c.key,.string c.val,.int .i64 c.val.size,.int .i64 0]] Bl.none Yr Wb HP.out hJb rfl (fun _ h=>h.elim) ((hF.grow hFr hG).trans (fb.mono (fun _ h=>h.elim))) (hG.trans hF.size hGr))
    refine⟨rfl,(dF hRr).mono ?_⟩
    clear hy hRr
    have FB:Fr Y W Wb:=hFr.trans (fb.mono (fun _ h=>h.elim))
    rintro e Wf (⟨rfl,Y5,hJ5,hF5,hG5⟩|⟨rfl,Y5,hJ5,hF5,hG5⟩)
    ·have HN:Hid (J (pre++cW (cs.take (j+1))) Y5 Wf):=by
      show J _ _ _
      rw [HT.out,hg,if_neg (by simp),← List.append_assoc];exact hJ5
     clear hJ5
     gi_wp2
     go_roundw
     case rel=>exact⟨j+1,Y5,by omega,by go_num,HN.out,FB.grow hF5 hGr,hGr.trans FB.size hG5⟩
     case measure=>simp [intOf];omega
    ·gi_wp2
     go_ret
     exact .inr ⟨rfl,Y5,_,by rw [HP.out];exact⟨cW (cs.drop (j+1))++post,by simp⟩,by simp,hJ5,FB.grow hF5 hGr,hGr.trans FB.size hG5⟩
   ·have HN:Hid (J (pre++cW (cs.take (j+1))) Yr Wa):=by
     show J _ _ _
     rw [HT.out,hg];simpa using sJ _ _ _ _ hJr (fa.on (fun k hk=>⟨lYr k hk,fun h=>h⟩))
    rw [hg] at g2 k2 hWa
    gi_wp2
    refine⟨trivial,?_⟩
    gi_wp2
    refine⟨fun _ h=>(by cases h),?_⟩
    gi_wp2
    go_roundw
    case rel=>exact⟨j+1,Yr,by omega,by go_num,HN.out,hFr.trans (fa.mono (fun _ h=>h.elim)),hGr⟩
    case measure=>simp [intOf];omega
  ·obtain rfl:j=cs.length:=by omega
   have HJ:Hid (J (pre++cW cs) Yr wr):=by rw [List.take_length] at hJr;exact hJr
   clear hJr
   gi_wp2
   go_ret
   exact .inl ⟨rfl,Yr,HJ.out,hFr,hGr⟩
abbrev MN.obj (m:MN):Obj:=.cells #[.string m.lo,.string m.hi,.int .i64 m.place,.slice m.ea m.en m.ec,.slice m.ka m.kn m.kc] 224
abbrev Bv:Obj:=.cells #[.string ⟨#[]⟩,.string ⟨#[]⟩,.int .i64 0,.slice none 0 0,.slice none 0 0] 224
theorem Px (β:Nat) (root:Int) (ca:Option Addr) (cn cc:Nat) (m:MN) (hp:((m.place:Int)==0)=true) (w:World) :
  Calls Tryz.prog 190 #[.agg (tA β root ca cn cc),.agg #[.string m.lo,.string m.hi,.int .i64 m.place,.slice m.ea m.en m.ec,.slice m.ka m.kn m.kc]] w fun e w'=>e=.returned (.agg #[.string m.lo,.string m.hi,.int .i64 m.place,.slice m.ea m.en m.ec,.slice m.ka m.kn m.kc])∧Below w.heap.size w w':=by
 obtain⟨W1,hW1⟩:=nM (w.alloc (.cells (tA β root ca cn cc) 95))
 obtain⟨W2,hW2⟩:=nM (W1.alloc m.obj)
 obtain⟨W3,hW3⟩:=nM (W2.alloc Bv)
 have z1:W1.heap.size=w.heap.size+1:=by rw [← hW1];simp
 have z2:W2.heap.size=w.heap.size+1+1:=by rw [← hW2];simp [z1]
 have x2:W3.heap[w.heap.size+1]?=some m.obj:=by rw [← z1];exact hW3▸aB _ (hW2▸aA W1 _)
 have e2:W3.heap[w.heap.size+1+1]?=some Bv:=by rw [← z2];exact hW3▸aA W2 _
 obtain⟨a0,a1,a2,a3,a4⟩:=eE x2
 obtain⟨b0,b1,b2,b3,b4⟩:=eE e2
 have bfr:=aD e2
 have e3:=aF (aF (aF (aF (aF e2 0 (.string m.lo)) 1 (.string m.hi)) 2 (.int .i64 m.place)) 3 (.slice m.ea m.en m.ec)) 4 (.slice m.ka m.kn m.kc)
 obtain⟨d0,d1,d2,d3,d4⟩:=eE (w:=(((((W3.setCell ⟨w.heap.size+1+1,0,none⟩ (.string m.lo)).setCell ⟨w.heap.size+1+1,1,none⟩ (.string m.hi)).setCell ⟨w.heap.size+1+1,2,none⟩ (.int .i64 m.place)).setCell ⟨w.heap.size+1+1,3,none⟩ (.slice m.ea m.en m.ec)).setCell ⟨w.heap.size+1+1,4,none⟩ (.slice m.ka m.kn m.kc))) (by simpa using e3)
 have HB:Hid (Below w.heap.size w (((((W3.setCell ⟨w.heap.size+1+1,0,none⟩ (.string m.lo)).setCell ⟨w.heap.size+1+1,1,none⟩ (.string m.hi)).setCell ⟨w.heap.size+1+1,2,none⟩ (.int .i64 m.place)).setCell ⟨w.heap.size+1+1,3,none⟩ (.slice m.ea m.en m.ec)).setCell ⟨w.heap.size+1+1,4,none⟩ (.slice m.ka m.kn m.kc))):=by
  have h0:Below w.heap.size w W3:=by rw [← hW3,← hW2,← hW1];exact((bA _ _).alloc (by simp) _).alloc (by simp;omega) _
  exact((((h0.setCell (p:=⟨w.heap.size+1+1,0,none⟩) (by simp;omega) _).setCell (p:=⟨w.heap.size+1+1,1,none⟩) (by simp;omega) _).setCell (p:=⟨w.heap.size+1+1,2,none⟩) (by simp;omega) _).setCell (p:=⟨w.heap.size+1+1,3,none⟩) (by simp;omega) _).setCell (p:=⟨w.heap.size+1+1,4,none⟩) (by simp;omega) _
 clear x2 e2 e3
 go_enter Tryz.func190,Tryz.ntmps190
 go_wp2
 refine bodyPost_ret (v:=.agg #[.string m.lo,.string m.hi,.int .i64 m.place,.slice m.ea m.en m.ec,.slice m.ka m.kn m.kc]) ?_ rfl ⟨rfl,HB.out⟩
 simp [results,Tryz.results190,go_sem,d0,d1,d2,d3,d4]
attribute [local go_sem] Oper.semAt_some
theorem kX.cell {w w':World} {B b o:Nat} {u:Value} (ht:kX B w w') (h:w.cell? ⟨b,o,none⟩=some u):w'.cell? ⟨b,o,none⟩=some u:=by
 have:∃ c e f,w.heap[b]?=some (.cells c e f):=by
  cases hb:w.heap[b]? with
  | none=>simp [World.cell?,hb] at h
  | some x =>
   cases x with
   | cells c e f=>exact⟨c,e,f,rfl⟩
   | _=>simp [World.cell?,hb] at h
 obtain⟨c,e,f,hb⟩:=this
 rw [World.cell?_of_block (w:=w) ((ht.cells _ _ _ _ hb).trans hb.symm)]
 exact h
theorem aH.took {w w':World} {S:Bl} {a:Option Addr} {vs:List Value} {B:Nat} (h:aH w S a vs) (ht:kX B w w'):aH w' S a vs:=by
 rcases h with h|⟨b,off,ha,hs,hc⟩
 ·exact .inl h
 ·exact .inr ⟨b,off,ha,hs,fun i u hu=>ht.cell (hc i u hu)⟩
theorem yN {g:Pg} {es:List En} (h:g.ents=es.map (·.e)):g.ents.flatMap Ent.cells=aN es:=by rw [aN,h]
theorem Py (β:Nat) (sv lv:Value) (fs:Fs) (hl:(fs.life==0)=false) (root:Int) (ca:Option Addr) (cn cc:Nat) (m:MN) (hpl:((m.place:Int)==0)=false) (es:List En) (w:World) (ht:bH fs 0 (.leaf m.place es) ⟨m.lo,m.hi⟩) (hf:aG w β sv lv fs) :
  Calls Tryz.prog 190 #[.agg (tA β root ca cn cc),.agg #[.string m.lo,.string m.hi,.int .i64 m.place,.slice m.ea m.en m.ec,.slice m.ka m.kn m.kc]] w fun e w' =>
   ∃ ea ec,e=.returned (.agg #[.string m.lo,.string m.hi,.int .i64 0,.slice ea es.length ec,.slice none 0 0])∧aH w' (New w w') ea (aN es)∧es.length≤ec∧Below w.heap.size w w':=by
 obtain⟨g,hg,hk3,hes,hne,hin,hok⟩:=ht
 obtain⟨W1,hW1⟩:=nM (((w.alloc (.cells (tA β root ca cn cc) 95)).alloc m.obj).alloc Bv)
 have B1:Below w.heap.size w W1:=hW1▸((bA _ _).alloc (by simp) _).alloc (by simp;omega) _
 have t1:W1.heap[w.heap.size]?=some (.cells (tA β root ca cn cc) 95):=hW1▸aB _ (aB _ (aA w _))
 have s1:W1.heap[w.heap.size+1]?=some m.obj:=by
  rw [← hW1];refine aB _ ?_;have:=aA (w.alloc (.cells (tA β root ca cn cc) 95)) m.obj;simpa using this
 have r1:W1.heap[w.heap.size+1+1]?=some Bv:=by
  rw [← hW1];have:=aA ((w.alloc (.cells (tA β root ca cn cc) 95)).alloc m.obj) Bv;simpa using this
 have z1:W1.heap.size=w.heap.size+3:=by rw [← hW1];simp
 obtain⟨tc0,tc1,tc2⟩:=eR t1
 obtain⟨sc0,sc1,sc2,sc3,sc4⟩:=eE s1
 have hf1:aG W1 β sv lv fs:=hf.on (vV B1 hf.lies)
 obtain⟨sm1,sm2,sm3⟩:=iT hg
 have he0:0<g.ents.length:=by rw [hes,List.length_map];exact List.length_pos_iff.2 hne
 have hel:g.ents.length=es.length:=by rw [hes,List.length_map]
 have hin':∀ e∈g.ents,(⟨m.lo,m.hi⟩:Sp).has e.key=true:=fun e he=>by rw [hes,List.mem_map] at he;obtain⟨x,hx,rfl⟩:=he;exact hin x hx
 have hNd:=sF β sv lv fs root ca cn cc m.place ⟨m.lo,m.hi⟩ g W1 hf1 hl hg (by simp [hk3]) (by simp [hk3]) he0 (hin' _ (List.getElem_mem _)) (hin' _ (List.getElem_mem _)) sm1 sm3
 obtain⟨nk,nkd⟩:=qS hg hk3
 have HK:Hid (g.kids=[]):=nkd
 have HE:Hid (g.ents=es.map (·.e)):=hes
 have HL:Hid (g.ents.length=es.length):=hel
 clear hk3 hes nk nkd hel
 refine(callsIn_wide (n:=0)).1 (callsIn_of_wp_marks Tryz.func190 rfl trivial ?_ rfl)
 simp only [Tryz.ntmps190,jA,jB,jN,Nat.reduceAdd,Nat.reduceSub,jR,jO,jP,jT,jE,jF]
 gi_wp2_with (first
  | (refine⟨trivial,rfl,?_⟩;gi_at_call 117;refine(callsIn_wide.2 hNd).mono ?_;clear hNd;rintro e W3 ⟨vv,rfl,⟨ka,ia,ea,kc,ic,ec,rfl,q1,q2,q3,qq⟩,hb3⟩;obtain⟨W4,hW4⟩:=nM (W3.alloc (pgO g ka ia ea kc ic ec));have x4:W4.heap[W3.heap.size]?=some (pgO g ka ia ea kc ic ec):=hW4▸aA W3 _;obtain⟨m0,m1,m2,m3,m4,m5,m6,m7⟩:=bM x4;have f4:Fr Bl.none W1 W4:=(Fr.of_below hb3).trans (hW4▸(Fr.refl _ W3).alloc _);have s4:=f4.heap s1 (fun h=>h);obtain⟨sd0,sd1,sd2,sd3,sd4⟩:=eE s4;have s5:=aB (.cells #[.string m.lo,.string m.hi,.int .i64 0,.slice ea g.ents.length ec,.slice none 0 0] 224) s4;obtain⟨se0,se1,se2,se3,se4⟩:=eE s5;have x45:=aB (.cells #[.string m.lo,.string m.hi,.int .i64 0,.slice ea g.ents.length ec,.slice none 0 0] 224) x4;obtain⟨me0,me1,me2,me3,me4,me5,me6,me7⟩:=bM x45;have hKc:=oO g ⟨m.lo,m.hi⟩ ka ia ea kc ic ec (W4.alloc (.cells #[.string m.lo,.string m.hi,.int .i64 0,.slice ea g.ents.length ec,.slice none 0 0] 224)))
  | (refine⟨trivial,rfl,?_⟩;gi_at_call 118;refine(callsIn_wide.2 hKc).mono ?_;clear hKc;rintro e W6 ⟨rfl,y1,y2,hb6⟩))
 clear se0 se1 se2 se3 se4 me0 me1 me2 me3 me4 me5 me6 me7
 obtain⟨W5,hW5⟩:=nM (W4.alloc (.cells #[.string m.lo,.string m.hi,.int .i64 0,.slice ea g.ents.length ec,.slice none 0 0] 224))
 rw [hW5] at y1 y2 hb6 s5 x45
 have x5:W5.heap[W4.heap.size]?=some (.cells #[.string m.lo,.string m.hi,.int .i64 0,.slice ea g.ents.length ec,.slice none 0 0] 224):=hW5▸aA W4 _
 have f5:Fr Bl.none W1 W5:=f4.trans (hW5▸(Fr.refl _ W4).alloc _)
 have z55:W5.heap.size=W4.heap.size+1:=by rw [← hW5];simp
 rw [z55] at y1 y2
 have f6:Fr Bl.none W1 W6:=f5.trans (Fr.of_below hb6)
 have z4:W3.heap.size<W4.heap.size:=(gL x4)
 have z45:W4.heap.size<W5.heap.size:=(gL x5)
 have z3:=hb3.size
 have z6:W4.heap.size+1+1<W6.heap.size:=(gL y2)
 have o36:On (New W1 W3) W3 W6:=((hW4▸(On.refl _ W3).alloc (fun k hk=>hk.2) _:On (New W1 W3) W3 W4).trans (hW5▸(On.refl _ W4).alloc (fun k hk=>by have:=hk.2;omega) _:On (New W1 W3) W4 W5)).trans (vV hb6 (fun k hk=>by have:=hk.2;omega))
 let Rd:Bl:=fun k=>k=W4.heap.size+1∨k=W4.heap.size+1+1∨New W1 W3 k
 have hseq:=oM (W4.heap.size+1+1) (W4.heap.size+1) ⟨m.lo,m.hi⟩ g.kind g.ver g.root g.next ka ia ea kc ic g.ents.length ec g.data g.keys g.kids Rd W6 y2 y1 ((q1.on o36).mono (fun k hk=>.inr (.inr hk))) ((q2.on o36).mono (fun k hk=>.inr (.inr hk))) (.inr (.inl rfl)) (.inl rfl) sm1 sm2 qq.1 qq.2.1
 have hxs:parts ⟨m.lo,m.hi⟩ g.keys g.kids=[]:=by rw [HK.out];cases g.keys<;>rfl
 have HXS:Hid (parts ⟨m.lo,m.hi⟩ g.keys g.kids=[]):=hxs
 clear hxs
 let I:List (Int×Sp)→Bl→World→Prop:=fun pre Y W=>True∧Y=Bl.none
 refine eS (P:=Tryz.prog) (Has:=rT) (Rd:=Rd) rfl (enters_of Tryz.func140 (by kernel_rfl) rfl) hseq (fun x args S W hH=>by rw [hH];rfl) I (fun _ _ _ _=>False) ?_ (fun _ _ _ _ _ h=>h.elim) ?_ (fun _ _ _ _ h=>h.elim) Bl.none ⟨trivial,rfl⟩ ?_ ?_ ?_ (fun _ _ _ _ _ _ _ _ _ h=>h.elim)
 ·rintro pre Y W W' ⟨_,rfl⟩ ho
  exact⟨trivial,rfl⟩
 ·rintro pre Y W ⟨_,rfl⟩ k hk
  exact hk.elim
 ·rintro k (rfl|rfl|hk)
  ·exact⟨fun h=>h,by omega⟩
  ·exact⟨fun h=>h,by omega⟩
  ·exact⟨fun h=>h,by have:=hk.2;omega⟩
 ·intro l pre x rest args S Y' W hx
  rw [HXS.out] at hx
  simp at hx
 ·-- behind the loop
  rintro D Y' W hD hYD ⟨_,rfl⟩ hFW hGW hDW
  have xW:=hFW.heap ((hb6.block _ z45).trans x5) (fun h=>h)
  have rW:=hFW.heap (f6.heap r1 (fun h=>h)) (fun h=>h)
  obtain⟨n0,n1,n2,n3,n4⟩:=eE xW
  obtain⟨b0,b1,b2,b3,b4⟩:=eE rW
  have bfr:=aD rW
  have hm:Marks w.heap.size [mk D] W:=(Marks.nil w.heap.size W6).cons (fun D' _ h=>hFW.heap h (fun e=>e)) (by have:=B1.size;omega) hDW hD
  have F0:Fr Bl.none w W:=(Fr.of_below B1).trans (f6.trans hFW)
  have zW:W6.heap.size≤W.heap.size:=hFW.size
  have zW1:W1.heap.size≤W6.heap.size:=f6.size
  have qW:aH W (New W1 W3) ea (g.ents.flatMap Ent.cells):=(q3.on o36).on (hFW.on (fun k hk=>⟨by have:=hk.2;omega,fun h=>h⟩))
  have hec:=qq.2.2
  have q3H:Hid (aH W3 (New W1 W3) ea (g.ents.flatMap Ent.cells)):=q3
  have HEC:Hid (es.length≤ec):=by have:=HL.out;show _≤_;omega
  have e3:=aF (aF (aF (aF (aF rW 0 (.string m.lo)) 1 (.string m.hi)) 2 (.int .i64 0)) 3 (.slice ea g.ents.length ec)) 4 (.slice none 0 0)
  clear q1 q2 q3 qW hec qq
  gi_wp2
  obtain⟨WF,hWF⟩:=nM (((((W.setCell ⟨w.heap.size+1+1,0,none⟩ (.string m.lo)).setCell ⟨w.heap.size+1+1,1,none⟩ (.string m.hi)).setCell ⟨w.heap.size+1+1,2,none⟩ (.int .i64 0)).setCell ⟨w.heap.size+1+1,3,none⟩ (.slice ea g.ents.length ec)).setCell ⟨w.heap.size+1+1,4,none⟩ (.slice none 0 0))
  have FF:Fr (Bl.one (w.heap.size+1+1)) W WF:=by
   rw [← hWF]
   exact((((((Fr.refl (Bl.one (w.heap.size+1+1)) W).setCell (p:=⟨w.heap.size+1+1,0,none⟩) (.inl rfl) _).setCell (p:=⟨w.heap.size+1+1,1,none⟩) (.inl rfl) _).setCell (p:=⟨w.heap.size+1+1,2,none⟩) (.inl rfl) _).setCell (p:=⟨w.heap.size+1+1,3,none⟩) (.inl rfl) _).setCell (p:=⟨w.heap.size+1+1,4,none⟩) (.inl rfl) _)
  have xF:WF.heap[w.heap.size+1+1]?=some (.cells #[.string m.lo,.string m.hi,.int .i64 0,.slice ea g.ents.length ec,.slice none 0 0] 224):=by rw [← hWF];simpa using e3
  have hmF:Marks w.heap.size [mk D] WF:=hm.on (fun D' _ h=>FF.heap h (fun e=>by simp only [Bl.one] at e;subst e;rw [rW] at h;simp at h))
  have F0F:Fr Bl.none w WF:=F0.grow FF (fun k hk=>.inr (by simp only [Bl.one] at hk;omega))
  have zr:w.heap.size+1+1<W1.heap.size:=(gL r1)
  have QF:aH WF (New w WF) ea (aN es):=by
   have q:=(q3H.out.on o36).on (hFW.on (fun k hk=>⟨by have:=hk.2;omega,fun h=>h⟩))
   have q':=q.on (FF.on (Z:=New W1 W3) (fun k hk=>⟨by have:=hk.2;omega,fun e=>by simp only [Bl.one] at e;have:=hk.1;omega⟩))
   rw [yN HE.out] at q'
   exact q'.mono (fun k hk=>⟨by have:=hk.1;omega,by have:=hk.2;have:=FF.size;omega⟩)
  refine qFb (p:=4) rfl (w.heap.size+1+1) _ _ _ rfl (hWF▸xF) Tryz.underlying224 rfl (by kernel_rfl) (hWF▸hmF) ?_
  intro w' ht'
  rw [hWF] at ht'
  refine⟨ea,ec,by rw [← HL.out],?_,HEC.out,(F0F.took ht' (jU _)).below0⟩
  have hsz:=ht'.size
  exact aH.took (QF.mono (fun k hk=>⟨hk.1,by have:=hk.2;omega⟩)) ht'
variable {fs:Fs} {g:Pg} {k:ByteArray} {p:Nat}
theorem sZ {last k:ByteArray} (h:gK last k=true):lt last k=true∧k.size≤24:=by
 unfold gK at h
 simpa [lt] using h
theorem uJ:∀ {ks:List ByteArray} {last:ByteArray},fQ last ks=true→ks.Pairwise (fun a b=>lt a b=true)∧∀ k∈ks,lt last k=true∧k.size≤24
 | [],_,_=>⟨.nil,by simp⟩
 | k :: r,last,h=>by
  simp only [fQ,Bool.and_eq_true] at h
  obtain⟨h1,h2⟩:=sZ h.1
  obtain⟨r1,r2⟩:=uJ h.2
  refine⟨List.pairwise_cons.2 ⟨fun x hx=>(r2 x hx).1,r1⟩,fun x hx=>?_⟩
  rcases List.mem_cons.1 hx with rfl|hx
  ·exact⟨h1,h2⟩
  ·exact⟨fS h1 (r2 x hx).1,(r2 x hx).2⟩
theorem Ck:∀ {es:List Ent} {last:ByteArray},fM last es=true→es.Pairwise (fun a b=>lt a.key b.key=true)∧∀ e∈es,lt last e.key=true∧e.key.size≤24∧nV e.val e.size e.over=true
 | [],_,_=>⟨.nil,by simp⟩
 | e :: r,last,h=>by
  simp only [fM,Bool.and_eq_true] at h
  obtain⟨h1,h2⟩:=sZ h.1.1
  obtain⟨r1,r2⟩:=Ck h.2
  refine⟨List.pairwise_cons.2 ⟨fun x hx=>(r2 x hx).1,r1⟩,fun x hx=>?_⟩
  rcases List.mem_cons.1 hx with rfl|hx
  ·exact⟨h1,h2,h.1.2⟩
  ·exact⟨fS h1 (r2 x hx).1,(r2 x hx).2⟩
theorem sK (h:fs.has p g):dU g.kind g.ver g.root g.next g.keys g.kids g.ents g.data=true:=by
 obtain⟨_,_,he,_,rfl⟩:=h
 unfold Pg.encE cZ at he
 split at he
 ·rename_i hr
  rw [Bool.and_eq_true] at hr
  exact hr.1
 ·cases he
theorem Qs (h:fs.has p g) (hk:g.kind=2):g.keys.Pairwise (fun a b=>lt a b=true)∧∀ k∈g.keys,lt ⟨#[]⟩ k=true∧k.size≤24:=by
 have hr:=sK h
 unfold dU at hr
 rw [hk] at hr
 simp only [show ¬ ((2:Int)=1) by decide,if_false,if_true,Bool.and_eq_true,gM] at hr
 exact uJ hr.2.2
theorem Mq (h:fs.has p g) (hk:g.kind=3):g.ents.Pairwise (fun a b=>lt a.key b.key=true)∧∀ e∈g.ents,lt ⟨#[]⟩ e.key=true∧e.key.size≤24∧nV e.val e.size e.over=true:=by
 have hr:=sK h
 unfold dU at hr
 rw [hk] at hr
 simp only [show ¬ ((3:Int)=1) by decide,show ¬ ((3:Int)=2) by decide,if_false,if_true,Bool.and_eq_true] at hr
 exact Ck hr.2.2
def T.ents:Nat→T→List En
 | _,.leaf _ es=>es
 | 0,.branch _ _ _=>[]
 | h+1,.branch _ _ kids=>kids.flatMap (T.ents h)
theorem Zw {s x:Sp} (h1:le s.lo x.lo=true) (h2:Qr x.hi s.hi=true)  (h:x.has k=true):s.has k=true:=by
 unfold Sp.has at *
 rw [Bool.and_eq_true] at *
 exact⟨bN h1 h.1,Rz h2 h.2⟩
theorem Bj {α:Type}:∀ (s:Sp) (ks:List ByteArray) (kids:List α),kids.length=ks.length+1→ks.Pairwise (fun a b=>lt a b=true)→(∀ k∈ks,lt s.lo k=true∧Sp.below s.hi k=true)→∀ x∈parts s ks kids,le s.lo x.2.lo=true∧Qr x.2.hi s.hi=true
 | s,_,[],hl,_,_=>by simp at hl
 | s,[],k :: kids,hl,_,_=>by
  have:kids=[]:=List.eq_nil_of_length_eq_zero (by simpa using hl)
  subst this
  simp only [parts,List.mem_singleton]
  rintro x rfl
  exact⟨bK _,Wj _⟩
 | s,q :: ks,k :: kids,hl,hp,hb=>by
  obtain⟨hq,hp'⟩:=List.pairwise_cons.1 hp
  obtain⟨b1,b2⟩:=hb q (by simp)
  simp only [parts,List.mem_cons]
  rintro x (rfl|hx)
  ·exact⟨bK _,Er (k:=q) b2 (fun e=>by rw [e,Zl] at b1;cases b1)⟩
  ·obtain⟨r1,r2⟩:=Bj ⟨q,s.hi⟩ ks kids (by simpa using hl) hp' (fun x hx=>⟨hq x hx,(hb x (by simp [hx])).2⟩) x hx
   exact⟨bN (kC b1) r1,r2⟩
theorem gO {α:Type}:∀ (s:Sp) (ks:List ByteArray) (kids:List α),(parts s ks kids).map (·.1)=kids
 | _,_,[]=>by simp [parts]
 | s,[],k :: kids=>by simp [parts,gO ⟨s.hi,s.hi⟩ [] kids]
 | s,q :: ks,k :: kids=>by simp [parts,gO ⟨q,s.hi⟩ ks kids]
theorem fH {h p:Nat} {ks:List ByteArray} {kids:List T} {s:Sp} (ht:bH fs (h+1) (.branch p ks kids) s):kids.length=ks.length+1∧ks.Pairwise (fun a b=>lt a b=true)∧(∀ k∈ks,lt s.lo k=true∧Sp.below s.hi k=true)∧(∀ k∈ks,k.size≤24)∧∀ x∈parts s ks kids,bH fs h x.1 x.2:=by
 obtain⟨g,hg,hk,hks,_,hlen,⟨h0,c1,c2⟩,hall⟩:=ht
 obtain⟨r1,r2⟩:=Qs hg hk
 rw [hks] at r1 r2
 refine⟨hlen,r1,fun k hkm=>?_,fun k hkm=>(r2 k hkm).2,hall⟩
 obtain⟨i,hi,rfl⟩:=List.getElem_of_mem hkm
 have hp:=List.pairwise_iff_getElem.1 r1
 constructor
 ·rcases Nat.eq_zero_or_pos i with rfl|hi0
  ·exact c1
  ·exact fS c1 (hp 0 i h0 hi hi0)
 ·unfold Sp.has at c2
  rw [Bool.and_eq_true] at c2
  by_cases hl:i=ks.length-1
  ·subst hl;exact c2.2
  ·exact below_le (kC (hp i (ks.length-1) hi (by omega) (by omega))) c2.2
theorem sN:∀ {h:Nat} {t:T} {s:Sp},bH fs h t s→∀ e∈T.ents h t,s.has e.e.key=true
 | 0,.leaf p es,s,ht,e,he=>by obtain⟨g,_,_,_,_,h5,_⟩:=ht;exact h5 e he
 | 0,.branch _ _ _,s,ht,e,he=>by simp [T.ents] at he
 | h+1,.leaf _ _,s,ht,e,he=>by simp [bH] at ht
 | h+1,.branch p ks kids,s,ht,e,he=>by
  obtain⟨hl,hp,hb,_,hall⟩:=fH ht
  simp only [T.ents,List.mem_flatMap] at he
  obtain⟨k,hk,he⟩:=he
  have:k∈(parts s ks kids).map (·.1):=by rw [gO];exact hk
  obtain⟨x,hx,rfl⟩:=List.mem_map.1 this
  obtain⟨r1,r2⟩:=Bj s ks kids hl hp hb x hx
  exact Zw r1 r2 (sN (hall x hx) e he)
theorem Zj {x q:Sp}  (h1:x.has k=true) (h2:q.has k=true):x.meets q=true:=by
 unfold Sp.has at h1 h2
 unfold Sp.meets
 rw [Bool.and_eq_true] at *
 exact⟨below_le h2.1 h1.2,below_le h1.1 h2.2⟩
theorem Lf (q:Sp):∀ {h:Nat} {t:T} {s:Sp},bH fs h t s→iM q (lvs h t s q)=(T.ents h t).filter (fun x=>q.has x.e.key)
 | 0,.leaf p es,s,ht=>by simp [iM,lvs,T.ents]
 | 0,.branch _ _ _,s,ht=>by simp [iM,lvs,T.ents]
 | h+1,.leaf _ _,s,ht=>by simp [bH] at ht
 | h+1,.branch p ks kids,s,ht=>by
  obtain⟨hl,hp,hb,_,hall⟩:=fH ht
  have key:∀ (l:List (T×Sp)),(∀ x∈l,bH fs h x.1 x.2)→iM q (l.flatMap (fun x=>if x.2.meets q=true then lvs h x.1 x.2 q else []))=((l.map (·.1)).flatMap (T.ents h)).filter (fun x=>q.has x.e.key):=by
   intro l hl
   induction l with
   | nil=>rfl
   | cons x l ih =>
    have hx:=hl x (by simp)
    have e1:iM q (if x.2.meets q=true then lvs h x.1 x.2 q else [])=(T.ents h x.1).filter (fun x=>q.has x.e.key):=by
     split
     ·exact Lf q hx
     ·rename_i hm
      symm
      rw [show iM q []=[] from rfl,List.filter_eq_nil_iff]
      intro e he hq
      exact hm (Zj (sN hx e he) hq)
    rw [List.map_cons,List.flatMap_cons,List.flatMap_cons,List.filter_append,← ih (fun y hy=>hl y (by simp [hy])),← e1]
    unfold iM
    rw [List.flatMap_append]
  simp only [lvs,T.ents]
  rw [key _ hall,gO]
variable {cs:List Ch} {w:World}
attribute [local go_sem] Oper.semAt_some
def lU (a:List En×List Ch) (x:En):List En×List Ch :=
 (a.1++(cW (a.2.take (cS a.2 x.e.key))++if fnd a.2 x.e.key=true then [] else [x]),a.2.drop (cS a.2 x.e.key))
def fO (es:List En) (cs:List Ch):List En×List Ch:=es.foldl lU ([],cs)
def aX (es:List En) (cs:List Ch):List En:=(fO es cs).1++cW (fO es cs).2
theorem Da (es:List En) (x:En) (cs:List Ch):fO (es++[x]) cs=lU (fO es cs) x:=by simp [fO]
theorem qH:∀ (es:List En) (a:List En×List Ch),∃ t,(es.foldl lU a).1=a.1++t
 | [],a=>⟨[],by simp⟩
 | x :: es,a=>by
  obtain⟨t,ht⟩:=qH es (lU a x)
  exact⟨_,by rw [List.foldl_cons,ht,lU,List.append_assoc]⟩
theorem Uv (pre post:List En) (cs:List Ch):∃ t,aX (pre++post) cs=(fO pre cs).1++t:=by
 obtain⟨t,ht⟩:=qH post (fO pre cs)
 refine⟨t++cW (fO (pre++post) cs).2,?_⟩
 unfold aX
 have e:fO (pre++post) cs=post.foldl lU (fO pre cs):=by simp [fO]
 rw [← List.append_assoc,← ht,e]
theorem Dc (hr:cH cs):∀ (es:List En),cH (fO es cs).2∧(fO es cs).2.length≤cs.length:=by
 intro es
 have:∀ (es:List En) (a:List En×List Ch),cH a.2→cH (es.foldl lU a).2∧(es.foldl lU a).2.length≤a.2.length:=by
  intro es
  induction es with
  | nil=>intro a h;exact⟨h,jU _⟩
  | cons x es ih =>
   intro a h
   obtain⟨h1,h2⟩:=ih (lU a x) (List.Pairwise.sublist (List.drop_sublist _ _) h)
   refine⟨h1,vJ h2 ?_⟩
   simp [lU]
 exact this es ([],cs) hr
theorem mT.on {α:Type} {P:Program} {g:Nat} {lb:Array Value} {Has:α→Array Value→Bl→World→Prop} {xs:List α} {Rd:Bl} {w w':World} (h:mT P g lb Has xs Rd w) (ho:On Rd w w'):mT P g lb Has xs Rd w' :=
 fun l J Jx Y W hon=>h l J Jx Y W (ho.trans hon)
theorem aH.cut {S:Bl} {b off:Nat}  {i:Nat} {a:Option Addr} (h:aH w S (some ⟨b,off,none⟩) (cs.flatMap Ch.cells)) (ha:i<cs.length→a=some ⟨b,off+i * 3,none⟩):aH w S a ((cs.drop i).flatMap Ch.cells):=by
 by_cases hi:i<cs.length
 ·rw [ha hi]
  rcases h with h|⟨b',off',hb,hs,hc⟩
  ·have:cs=[]:=by
    cases cs with
    | nil=>rfl
    | cons c cs=>simp [Ch.cells] at h
   subst this
   simp at hi
  ·simp only [Option.some.injEq,Addr.mk.injEq,and_true] at hb
   obtain⟨rfl,rfl⟩:=hb
   refine .inr ⟨b,off+i * 3,rfl,hs,fun j u hu=>?_⟩
   have e:(cs.flatMap Ch.cells)[i * 3+j]?=some u:=by
    have h3:((cs.take i).flatMap Ch.cells).length=i * 3:=by
     have:∀ (l:List Ch),(l.flatMap Ch.cells).length=l.length * 3:=by
      intro l
      induction l with
      | nil=>rfl
      | cons c l ih=>rw [List.flatMap_cons,jK,ih,jB];simp [Ch.cells];omega
     rw [this,List.length_take,Nat.min_eq_left (by omega)]
    rw [← List.take_append_drop i cs,List.flatMap_append,List.getElem?_append_right (by omega),h3]
    simpa using hu
   have:=hc _ _ e
   rw [Nat.add_assoc]
   exact this
 ·exact .inl (by rw [List.drop_eq_nil_of_le (by omega)];rfl)
theorem aH.head {S:Bl} {a:Option Addr}  {i:Nat} (h:aH w S a (cs.flatMap Ch.cells)):aH w S a ((cs.take i).flatMap Ch.cells):=by
 rcases h with h|⟨b,off,hb,hs,hc⟩
 ·left
  have:cs=[]:=by
   cases cs with
   | nil=>rfl
   | cons c cs=>simp [Ch.cells] at h
  subst this;simp
 ·refine .inr ⟨b,off,hb,hs,fun j u hu=>hc j u ?_⟩
  rw [← List.take_append_drop i cs,List.flatMap_append,List.getElem?_append_left (List.getElem?_eq_some_iff.1 hu).1]
  exact hu
theorem Gf (gf:Nat) (lb:Array Value) (eg:∀ args w,(callFunc gf args).run Tryz.prog w=.ok (.enter gf args) w) (es:List En) (Re:Bl) (bc be:Nat) (ca:Option Addr) (cc:Nat) (cs:List Ch) (S Rd:Bl) (w:World)
  (hseq:mT Tryz.prog gf lb pD es Re w) (xc:w.heap[bc]?=some (.cells #[.slice ca cs.length cc] 93)) (xe:w.heap[be]?=some (.cells #[.func (.func gf) #[] lb] 132)) (hR:aH w S ca (cs.flatMap Ch.cells)) (hr:cH cs) (hn:cs.length≤1000000) (hcc:cs.length≤cc) (hca:(ca=none∧cc=0)∨∃ b off,ca=some ⟨b,off,none⟩)
  (rc:Rd bc) (re:Rd be) (rs:∀ k,S k→Rd k) (rr:∀ k,Re k→Rd k) :
  mT Tryz.prog 148 #[.pointer (some ⟨bc,0,none⟩),.pointer (some ⟨be,0,none⟩)] pD (aX es cs) Rd w:=by
 intro l J Jx Y W hon hRd sJ lJ sJx lJx hY h0
 refine callsIn_of_wp_marks Tryz.func148 rfl trivial ?_ rfl
 simp only [Tryz.ntmps148,jA,jB,jN,Nat.reduceAdd,Nat.reduceSub,jR,jO,jP,jT,jE,jF]
 have lY:=lJ [] Y W h0
 have l1:=(hRd bc rc).2
 have l2:=(hRd be re).2
 obtain⟨W1,hW1⟩:=nM (W.alloc (.cells #[.func (.yield l) #[] #[]] 172))
 have f1:Fr Bl.none W W1:=hW1▸(Fr.refl _ W).alloc _
 have y1:W1.heap[W.heap.size]?=some (.cells #[.func (.yield l) #[] #[]] 172):=hW1▸aA W _
 have o1:On Rd w W1:=hon.trans (f1.on (fun k hk=>⟨(hRd k hk).2,fun h=>h⟩))
 have c0:W1.cell? ⟨bc,0,none⟩=some (.slice ca cs.length cc):=by simp [World.cell?,o1.heap xc rc]
 obtain⟨W2,hW2⟩:=nM (W1.alloc (.cells #[.slice ca cs.length cc] 93))
 have f2:Fr Bl.none W W2:=f1.trans (hW2▸(Fr.refl _ W1).alloc _)
 have x2:W2.heap[W1.heap.size]?=some (.cells #[.slice ca cs.length cc] 93):=hW2▸aA W1 _
 have o2:On Rd w W2:=hon.trans (f2.on (fun k hk=>⟨(hRd k hk).2,fun h=>h⟩))
 have e0:W2.cell? ⟨be,0,none⟩=some (.func (.func gf) #[] lb):=by simp [World.cell?,o2.heap xe re]
 have z1:W.heap.size<W1.heap.size:=(gL y1)
 have z2:W1.heap.size<W2.heap.size:=(gL x2)
 have y2:W2.heap[W.heap.size]?=some (.cells #[.func (.yield l) #[] #[]] 172):=hW2▸aB _ y1
 have hJ2:=sJ _ _ _ _ h0 (f2.on (fun k hk=>⟨lY k hk,fun h=>h⟩))
 have F2:Fr Y W W2:=f2.mono (fun _ h=>h.elim)
 have R2:=hR.on (o2.mono rs)
 have hseq2:=hseq.on (o2.mono rr)
 gi_wp2
 let br:=W1.heap.size
 let I:List En→Bl→World→Prop:=fun pre Y' W'=>∃ (Yj:Bl) (a:Option Addr) (c:Nat),J (fO pre cs).1 Yj W'∧(∀ k,Y' k↔Yj k∨k=br)∧¬ Yj br∧W'.heap[br]?=some (.cells #[.slice a (fO pre cs).2.length c] 93)∧(fO pre cs).2.length≤c∧(∀ Wx,aH Wx S ca (cs.flatMap Ch.cells)→aH Wx S a ((fO pre cs).2.flatMap Ch.cells))∧((a=none∧c=0)∨∃ b off,a=some ⟨b,off,none⟩)
 let Ix:Code→List En→Bl→World→Prop:=fun c pre Y' W'=>c=.ret∧∃ Yj pp,pp <+: aX es cs∧pp≠[]∧Jx pp Yj W'∧(∀ k,Yj k→Y' k)∧(∀ k,Y' k→k<W'.heap.size)
 have hRb:∀ k,Rd k→k≠br:=fun k hk=>by have:=(hRd k hk).2;show k≠W1.heap.size;omega
 refine eS (P:=Tryz.prog) (Has:=pD) (Rd:=Re) rfl eg hseq2 (fun x args S W hH=>by rw [show args=_ from hH];rfl) I Ix ?_ ?_ ?_ ?_ (fun k=>Y k∨k=br) ⟨Y,ca,cc,by simpa [fO] using hJ2,fun k=>Iff.rfl,fun h=>by have:=lY _ h;show False;simp only [br] at this;omega,by simpa [fO] using x2,by simpa [fO] using hcc,fun Wx h=>by simpa [fO] using h,hca⟩ ?_ ?_ ?_ ?_
 ·rintro pre Y' A B ⟨Yj,a,c,h1,h2,h3,h4,h5,h6,h7⟩ ho
  exact⟨Yj,a,c,sJ _ _ _ _ h1 (ho.mono (fun k hk=>(h2 k).2 (.inl hk))),h2,h3,ho.heap h4 ((h2 _).2 (.inr rfl)),h5,h6,h7⟩
 ·rintro c pre Y' A B ⟨rfl,Yj,pp,h1,h2,h3,h4,h5⟩ ho
  exact⟨rfl,Yj,pp,h1,h2,sJx _ _ _ _ h3 (ho.mono h4),h4,fun k hk=>jY (h5 k hk) ho.size⟩
 ·rintro pre Y' A ⟨Yj,a,c,h1,h2,h3,h4,h5,h6,h7⟩ k hk
  rcases (h2 k).1 hk with h|rfl
  ·exact lJ _ _ _ h1 k h
  ·exact(gL h4)
 ·rintro c pre Y' A ⟨rfl,Yj,pp,h1,h2,h3,h4,h5⟩
  exact h5
 ·intro k hk
  have hk':=rr k hk
  exact⟨fun h=>h.elim (hRd k hk').1 (hRb k hk'),by have:=(hRd k hk').2;omega⟩
 ·-- an entry
  rintro lk pre x rest args S' Y2 Wd hx ⟨Yj,a,c,hJd,hYi,hnb,xb,hlc,hrow,hsh⟩ hH hS hFd hGd hl0 hl1 hl2 ⟨r',hr'⟩
  have hH':args=#[.agg #[.string x.e.key,.string x.e.val,.int .i64 x.e.size,.int .i64 x.e.over]]:=hH
  subst hH'
  obtain⟨hrise,hrl⟩:=Dc hr pre
  obtain⟨t,ht⟩:=Uv (pre++[x]) rest cs
  have hes:es=(pre++[x])++rest:=by rw [hx];simp
  rw [← hes,Da] at ht
  have hsn:=Da pre x cs
  obtain⟨dn,hdn⟩:=nM ((fO pre cs).1)
  obtain⟨rs',hrs⟩:∃ rs',(fO pre cs).2=rs':=⟨_,rfl⟩
  simp only [lU,hdn,hrs] at ht hsn
  rw [hdn] at hJd
  rw [hrs] at xb hlc hrow hrise hrl
  obtain⟨i,hi⟩:=nM (cS rs' x.e.key)
  have hile:i≤rs'.length:=by rw [← hi];exact pK _ _
  obtain⟨fb,hfb⟩:=nM (fnd rs' x.e.key)
  rw [hi,hfb] at ht hsn
  have HT:Hid (aX es cs=dn++(cW (rs'.take i)++((if fb=true then [] else [x])++t))):=by show _=_;rw [ht];simp
  have HS:Hid (fO (pre++[x]) cs=(dn++(cW (rs'.take i)++if fb=true then [] else [x]),rs'.drop i)):=hsn
  have zd:W2.heap.size≤Wd.heap.size:=hFd.size
  have Fd:Fr Y W Wd:=F2.grow hFd (fun k hk=>hk.elim .inl (fun h=>.inr (by subst h;show W.heap.size≤W1.heap.size;omega)))
  have Gd:aI W Y Yj:=fun k hk=>by
   rcases hGd k ((hYi k).2 (.inl hk)) with(h|h)|h
   ·exact .inl h
   ·exact .inr (by subst h;show W.heap.size≤W1.heap.size;omega)
   ·exact .inr (by omega)
  have od:On Rd w Wd:=o2.trans (hFd.on (fun k hk=>⟨by have:=(hRd k hk).2;omega,fun h=>h.elim (hRd k hk).1 (hRb k hk)⟩))
  have yd:=hFd.heap y2 (fun h=>h.elim (fun h=>by have:=lY _ h;omega) (fun h=>by simp only [br] at h;omega))
  have lYj:=lJ _ _ _ hJd
  have hSearch:=fun Wx (h:aH Wx S ca (cs.flatMap Ch.cells)) (h2:∀ b,S b→b<Wx.heap.size)=>lW a c rs' x.e.key S Wx (hrow Wx h) h2 hrise (by omega) hlc
  rw [hi,hfb] at hSearch
  clear ht hsn hdn hrs hi hfb hes hx
  unfold iC
  gi_wp2
  refine⟨(Fr.refl _ Wd).alloc _,?_⟩
  intro We hTe
  have x3:=hTe.heap (k:=Wd.heap.size) (aA Wd (.cells #[.string x.e.key,.string x.e.val,.int .i64 x.e.size,.int .i64 x.e.over] 108)) (Nat.ne_of_gt hl1)
  obtain⟨m0,m1,m2,m3⟩:=iA x3
  have aE:Fr Bl.none Wd (Wd.alloc (.cells #[.string x.e.key,.string x.e.val,.int .i64 x.e.size,.int .i64 x.e.over] 108)):=(Fr.refl _ Wd).alloc _
  have fE:Fr (Bl.one lk) Wd We:=(aE.mono (fun _ h=>h.elim)).trans hTe.fr
  have zE:Wd.heap.size<We.heap.size:=(gL x3)
  have hbr:br<Wd.heap.size:=(gL xb)
  have xbE:=fE.heap xb (fun h=>by simp only [Bl.one] at h;subst h;exact hl2 ((hYi _).2 (.inr rfl)))
  have yE:=fE.heap yd (oN (by omega))
  have hJe:=sJ _ _ _ _ hJd (fE.on (fun k hk=>⟨lYj k hk,fun h=>by simp only [Bl.one] at h;subst h;exact hl2 ((hYi _).2 (.inl hk))⟩))
  have oE:On Rd w We:=od.trans (fE.on (fun k hk=>⟨by have:=(hRd k hk).2;omega,fun h=>by simp only [Bl.one] at h;have:=(hRd k hk).2;omega⟩))
  have Fe:Fr Y W We:=Fd.grow fE (fun k hk=>.inr (by simp only [Bl.one] at hk;omega))
  have cE:We.cell? ⟨W1.heap.size,0,none⟩=some (.slice a rs'.length c):=by
   have:We.heap[W1.heap.size]?=_:=xbE
   simp [World.cell?,this]
  have hSe:=hSearch We (hR.on (oE.mono rs)) (fun b hb=>by have:=(hRd b (rs b hb)).2;omega)
  have hmix:Tryz.prog.follows .mixedOrders=true:=by kernel_rfl
  gi_wp2_with (refine⟨trivial,rfl,?_⟩;gi_at_call 72;refine(CallsIn.inRound lk (callsIn_wide.2 hSe)).mono ?_;clear hSe hSearch;rintro e Wf ⟨rfl,hbf⟩;have fF:Fr Bl.none We Wf:=Fr.of_below hbf;have xbF:=fF.heap xbE (fun h=>h);have yF:=fF.heap yE (fun h=>h);have x3F:=fF.heap x3 (fun h=>h))
  have cF:Wf.cell? ⟨W1.heap.size,0,none⟩=some (.slice a rs'.length c):=by
   have:Wf.heap[W1.heap.size]?=_:=xbF
   simp [World.cell?,this]
  have yF0:Wf.cell? ⟨W.heap.size,0,none⟩=some (.func (.yield l) #[] #[]):=by simp [World.cell?,yF]
  have zF:=fF.size
  have hYjR:∀ k,Rd k→¬ Yj k:=fun k hk h=>(Gd k h).elim (hRd k hk).1 (fun h'=>by have:=(hRd k hk).2;omega)
  have fD:Fr Bl.none We Wf.drew:=fF.drew
  have oF:On Rd w Wf.drew:=oE.trans (fD.on (fun k hk=>⟨by have:=(hRd k hk).2;omega,fun h=>h⟩))
  have hJf:=sJ _ _ _ _ hJe (fD.on (fun k hk=>⟨lJ _ _ _ hJe k hk,fun h=>h⟩))
  have Ff:Fr Y W Wf.drew:=Fe.trans (fD.mono (fun _ h=>h.elim))
  have hlen:(rs'.take i).length=i:=by rw [List.length_take];omega
  have hTl:=Kh l (aX es cs) J Jx sJ lJ Y W hY a c (rs'.take i) S dn ((if fb=true then [] else [x])++t) Yj Wf.drew HT.out ((hrow _ (hR.on (oF.mono rs))).head) (fun b hb=>⟨hYjR b (rs b hb),by have:=(hRd b (rs b hb)).2;have:=fD.size;omega⟩) (by omega) (by omega) hJf Ff Gd
  rw [hlen] at hTl
  have hTl2:CallsIn Fence.wide 0 Tryz.prog 149 #[.slice a i c,.func (.yield l) #[] #[]] Wf.drew (fun e W'=>∃ b,e=.returned (.bool b)∧Hid (qDp J Jx (aX es cs) dn (cW (rs'.take i)) Yj Wf.drew (.returned (.bool b)) W')):=by
   refine hTl.mono ?_
   rintro e W' hT
   rcases id hT with⟨rfl,_⟩|⟨rfl,_⟩
   ·exact⟨true,rfl,hT⟩
   ·exact⟨false,rfl,hT⟩
  have hil:(i:Int)≤(c:Int):=by omega
  have hil2:(i:Int)≤(rs'.length:Int):=by omega
  clear hTl hlen m0 m1 m2 m3
  gi_region_with_o (refine⟨trivial,rfl,?_⟩;gi_at_call 149;refine(CallsIn.inRound lk hTl2).mono ?_;clear hTl2;rintro e Wg ⟨b,rfl,HTL⟩)
  all_goals
   have hgrow:∀ Y5,aI Wf.drew Yj Y5→aI We Y2 (fun k=>Y5 k∨k=br):=fun Y5 hG5 k hk=>by
    rcases hk with hk|rfl
    ·rcases hG5 k hk with h|h
     ·exact .inl ((hYi k).2 (.inl h))
     ·exact .inr (vJ fD.size h)
    ·exact .inl ((hYi _).2 (.inr rfl))
   have hfr2:∀ Wx,Fr Yj Wf.drew Wx→Fr Y2 We Wx:=fun Wx h=>(fD.mono (fun _ h=>h.elim)).trans (h.mono (fun k hk=>.inl ((hYi k).2 (.inl hk))))
   cases b
   ·rcases HTL.out with⟨hb,_⟩|⟨_,Y5,pp,hp,hne,hJ5,hF5,hG5⟩
    ·simp at hb
    ·clear HTL
     have xg:=hF5.heap (show Wf.drew.heap[br]?=_ from xbF) hnb
     gi_wp2
     refine⟨fun k=>Y5 k∨k=br,⟨rfl,Y5,pp,hp,hne,hJ5,fun k h=>.inl h,?_⟩,hfr2 _ hF5,hgrow _ hG5⟩
     rintro k (hk|rfl)
     ·exact lJx _ _ _ hJ5 k hk
     ·exact(gL xg)
   ·rcases HTL.out with⟨_,Y5,hJ5,hF5,hG5⟩|⟨hb,_⟩
    ·clear HTL
     have xg:=hF5.heap (show Wf.drew.heap[br]?=_ from xbF) hnb
     have cg:Wg.cell? ⟨W1.heap.size,0,none⟩=some (.slice a rs'.length c):=by
      have:Wg.heap[W1.heap.size]?=_:=xg
      simp [World.cell?,this]
     have gfr:∀ k,Wg.frozen? ⟨W1.heap.size,k,none⟩=false:=aD (show Wg.heap[W1.heap.size]?=_ from xg)
     have hn5:¬ Y5 br:=fun h=>(hG5 _ h).elim hnb (fun h'=>by have h1:Wf.heap.size≤W1.heap.size:=h';have h2:W1.heap.size<Wd.heap.size:=hbr;omega)
     have hYw:¬ Yj W.heap.size:=fun h=>(hGd _ ((hYi _).2 (.inl h))).elim (fun h'=>h'.elim (fun h'=>by have:=lY _ h';omega) (fun h'=>by have h'':W.heap.size=W1.heap.size:=h';omega)) (fun h'=>by omega)
     have hYd:¬ Yj Wd.heap.size:=fun h=>by have:=lYj _ h;omega
     rcases hsh with⟨rfl,rfl⟩|⟨rb,ro,rfl⟩
     ·obtain rfl:rs'=[]:=List.eq_nil_of_length_eq_zero (by omega)
      obtain rfl:i=0:=by simpa using hile
      obtain⟨Wh,hWh⟩:=nM (Wg.setCell ⟨W1.heap.size,0,none⟩ (.slice none (0) (0)))
      have fh:Fr (Bl.one br) Wg Wh:=hWh▸(Fr.refl (Bl.one br) Wg).setCell (p:=⟨W1.heap.size,0,none⟩) (.inl rfl) _
      have xh:Wh.heap[br]?=some (.cells #[.slice none (0) (0)] 93):=(by rw [← hWh];simpa using aF (show Wg.heap[W1.heap.size]?=_ from xg) 0 (.slice none (0) (0)))
      have yg:=hF5.heap (show Wf.drew.heap[W.heap.size]?=_ from yF) hYw
      have yh:=fh.heap yg (fun h=>by have h':W.heap.size=W1.heap.size:=h;omega)
      have yh0:Wh.cell? ⟨W.heap.size,0,none⟩=some (.func (.yield l) #[] #[]):=(by simp [World.cell?,yh])
      have x3g:=hF5.heap (show Wf.drew.heap[Wd.heap.size]?=_ from x3F) hYd
      have x3h:=fh.heap x3g (fun h=>by have h':Wd.heap.size=W1.heap.size:=h;have h2:W1.heap.size<Wd.heap.size:=hbr;omega)
      obtain⟨n0,n1,n2,n3⟩:=iA x3h
      have hJh:=sJ _ _ _ _ hJ5 (fh.on (fun k hk=>⟨lJ _ _ _ hJ5 k hk,fun h=>by have h':k=br:=h;rw [h'] at hk;exact hn5 hk⟩))
      have Fgh:Fr Y2 We Wh:=(hfr2 _ hF5).trans (fh.mono (fun k hk=>.inl ((hYi k).2 (.inr hk))))
      have hrow':∀ Wx,aH Wx S ca (cs.flatMap Ch.cells)→aH Wx S none ((([]:List Ch).drop 0).flatMap Ch.cells):=(fun Wx _=>.inl rfl)
      have HN:Hid ((0)=(([]:List Ch).drop 0).length):=(by show _=_;simp)
      have HC:Hid ((0)≤(0)):=(by show _≤_;omega)
      cases fb
      ·have heq:aX es cs=(dn++cW (([]:List Ch).take 0))++x :: t:=(by rw [HT.out];simp)
       have HEQ:Hid (aX es cs=(dn++cW (([]:List Ch).take 0))++x :: t):=heq
       clear heq
       have FWh:Fr Y W Wh:=(Ff.grow hF5 Gd).grow fh (fun k hk=>.inr (by have h':k=W1.heap.size:=hk;omega))
       have GW5:aI W Y Y5:=Gd.trans Ff.size hG5
       obtain⟨fn,tmps,assign,body,hy,hRr⟩:=hY _ x _ #[.agg #[.string x.e.key,.string x.e.val,.int .i64 x.e.size,.int .i64 x.e.over]] Bl.none Y5 Wh HEQ.out hJh rfl (fun _ h=>h.elim) FWh GW5
       gi_wp2
       refine⟨rfl,(lZ lk (dF hRr)).mono ?_⟩
       clear hy hRr
       rintro e Wi (⟨rfl,Y6,hJ6,hF6,hG6⟩|⟨rfl,Y6,hJ6,hF6,hG6⟩)
       ·have xi:=hF6.heap xh hn5
        have hn6:¬ Y6 br:=fun h=>(hG6 _ h).elim hn5 (fun h'=>by have h1:Wh.heap.size≤W1.heap.size:=h';have:=(gL xh);have h2:W1.heap.size<Wh.heap.size:=this;omega)
        gi_wp2
        refine⟨fun k=>Y6 k∨k=br,⟨Y6,none,0,?_,fun k=>Iff.rfl,hn6,?_,?_,?_,?_⟩,?_,?_⟩
        ·rw [HS.out];simpa using hJ6
        ·rw [HS.out];refine xi.trans ?_;exact congrArg (fun n=>some (Obj.cells #[Value.slice _ n _] 93)) HN.out
        ·rw [HS.out,← HN.out];exact HC.out
        ·rw [HS.out];exact hrow'
        ·exact .inl ⟨rfl,rfl⟩
        ·exact Fgh.grow hF6 (fun k hk=>hgrow _ hG5 k (.inl hk))
        ·intro k hk
         rcases hk with hk|rfl
         ·rcases hG6 k hk with h|h
          ·exact hgrow _ hG5 k (.inl h)
          ·exact .inr (vJ Fgh.size h)
         ·exact .inl ((hYi _).2 (.inr rfl))
       ·have xi:=hF6.heap xh hn5
        gi_wp2
        refine⟨fun k=>Y6 k∨k=br,⟨rfl,Y6,_,by rw [HEQ.out];exact⟨t,by simp⟩,by simp,hJ6,fun k h=>.inl h,?_⟩,Fgh.grow hF6 (fun k hk=>hgrow _ hG5 k (.inl hk)),?_⟩
        ·rintro k (hk|rfl)
         ·exact lJx _ _ _ hJ6 k hk
         ·exact(gL xi)
        ·intro k hk
         rcases hk with hk|rfl
         ·rcases hG6 k hk with h|h
          ·exact hgrow _ hG5 k (.inl h)
          ·exact .inr (vJ Fgh.size h)
         ·exact .inl ((hYi _).2 (.inr rfl))
      ·gi_wp2
       refine⟨fun _ h=>(by cases h),?_⟩
       gi_wp2
       refine⟨fun k=>Y5 k∨k=br,⟨Y5,none,0,?_,fun k=>Iff.rfl,hn5,?_,?_,?_,?_⟩,Fgh,hgrow _ hG5⟩
       ·rw [HS.out];simpa using hJh
       ·rw [HS.out];refine xh.trans ?_;exact congrArg (fun n=>some (Obj.cells #[Value.slice _ n _] 93)) HN.out
       ·rw [HS.out,← HN.out];exact HC.out
       ·rw [HS.out];exact hrow'
       ·exact .inl ⟨rfl,rfl⟩
     ·by_cases hci:c=i
      ·subst hci
       obtain⟨Wh,hWh⟩:=nM (Wg.setCell ⟨W1.heap.size,0,none⟩ (.slice (some ⟨rb,ro,none⟩) (0) (0)))
       have fh:Fr (Bl.one br) Wg Wh:=hWh▸(Fr.refl (Bl.one br) Wg).setCell (p:=⟨W1.heap.size,0,none⟩) (.inl rfl) _
       have xh:Wh.heap[br]?=some (.cells #[.slice (some ⟨rb,ro,none⟩) (0) (0)] 93):=(by rw [← hWh];simpa using aF (show Wg.heap[W1.heap.size]?=_ from xg) 0 (.slice (some ⟨rb,ro,none⟩) (0) (0)))
       have yg:=hF5.heap (show Wf.drew.heap[W.heap.size]?=_ from yF) hYw
       have yh:=fh.heap yg (fun h=>by have h':W.heap.size=W1.heap.size:=h;omega)
       have yh0:Wh.cell? ⟨W.heap.size,0,none⟩=some (.func (.yield l) #[] #[]):=(by simp [World.cell?,yh])
       have x3g:=hF5.heap (show Wf.drew.heap[Wd.heap.size]?=_ from x3F) hYd
       have x3h:=fh.heap x3g (fun h=>by have h':Wd.heap.size=W1.heap.size:=h;have h2:W1.heap.size<Wd.heap.size:=hbr;omega)
       obtain⟨n0,n1,n2,n3⟩:=iA x3h
       have hJh:=sJ _ _ _ _ hJ5 (fh.on (fun k hk=>⟨lJ _ _ _ hJ5 k hk,fun h=>by have h':k=br:=h;rw [h'] at hk;exact hn5 hk⟩))
       have Fgh:Fr Y2 We Wh:=(hfr2 _ hF5).trans (fh.mono (fun k hk=>.inl ((hYi k).2 (.inr hk))))
       have hrow':∀ Wx,aH Wx S ca (cs.flatMap Ch.cells)→aH Wx S (some ⟨rb,ro,none⟩) ((rs'.drop c).flatMap Ch.cells):=(fun Wx h=>.inl (by rw [List.drop_eq_nil_of_le (by omega)];rfl))
       have HN:Hid ((0)=(rs'.drop c).length):=(by show _=_;simp;omega)
       have HC:Hid ((0)≤(0)):=(by show _≤_;omega)
       cases fb
       ·have heq:aX es cs=(dn++cW (rs'.take c))++x :: t:=(by rw [HT.out];simp)
        have HEQ:Hid (aX es cs=(dn++cW (rs'.take c))++x :: t):=heq
        clear heq
        have FWh:Fr Y W Wh:=(Ff.grow hF5 Gd).grow fh (fun k hk=>.inr (by have h':k=W1.heap.size:=hk;omega))
        have GW5:aI W Y Y5:=Gd.trans Ff.size hG5
        obtain⟨fn,tmps,assign,body,hy,hRr⟩:=hY _ x _ #[.agg #[.string x.e.key,.string x.e.val,.int .i64 x.e.size,.int .i64 x.e.over]] Bl.none Y5 Wh HEQ.out hJh rfl (fun _ h=>h.elim) FWh GW5
        gi_wp2
        refine⟨rfl,(lZ lk (dF hRr)).mono ?_⟩
        clear hy hRr
        rintro e Wi (⟨rfl,Y6,hJ6,hF6,hG6⟩|⟨rfl,Y6,hJ6,hF6,hG6⟩)
        ·have xi:=hF6.heap xh hn5
         have hn6:¬ Y6 br:=fun h=>(hG6 _ h).elim hn5 (fun h'=>by have h1:Wh.heap.size≤W1.heap.size:=h';have:=(gL xh);have h2:W1.heap.size<Wh.heap.size:=this;omega)
         gi_wp2
         refine⟨fun k=>Y6 k∨k=br,⟨Y6,(some ⟨rb,ro,none⟩),0,?_,fun k=>Iff.rfl,hn6,?_,?_,?_,?_⟩,?_,?_⟩
         ·rw [HS.out];simpa using hJ6
         ·rw [HS.out];refine xi.trans ?_;exact congrArg (fun n=>some (Obj.cells #[Value.slice _ n _] 93)) HN.out
         ·rw [HS.out,← HN.out];exact HC.out
         ·rw [HS.out];exact hrow'
         ·exact .inr ⟨_,_,rfl⟩
         ·exact Fgh.grow hF6 (fun k hk=>hgrow _ hG5 k (.inl hk))
         ·intro k hk
          rcases hk with hk|rfl
          ·rcases hG6 k hk with h|h
           ·exact hgrow _ hG5 k (.inl h)
           ·exact .inr (vJ Fgh.size h)
          ·exact .inl ((hYi _).2 (.inr rfl))
        ·have xi:=hF6.heap xh hn5
         gi_wp2
         refine⟨fun k=>Y6 k∨k=br,⟨rfl,Y6,_,by rw [HEQ.out];exact⟨t,by simp⟩,by simp,hJ6,fun k h=>.inl h,?_⟩,Fgh.grow hF6 (fun k hk=>hgrow _ hG5 k (.inl hk)),?_⟩
         ·rintro k (hk|rfl)
          ·exact lJx _ _ _ hJ6 k hk
          ·exact(gL xi)
         ·intro k hk
          rcases hk with hk|rfl
          ·rcases hG6 k hk with h|h
           ·exact hgrow _ hG5 k (.inl h)
           ·exact .inr (vJ Fgh.size h)
          ·exact .inl ((hYi _).2 (.inr rfl))
       ·gi_wp2
        refine⟨fun _ h=>(by cases h),?_⟩
        gi_wp2
        refine⟨fun k=>Y5 k∨k=br,⟨Y5,(some ⟨rb,ro,none⟩),0,?_,fun k=>Iff.rfl,hn5,?_,?_,?_,?_⟩,Fgh,hgrow _ hG5⟩
        ·rw [HS.out];simpa using hJh
        ·rw [HS.out];refine xh.trans ?_;exact congrArg (fun n=>some (Obj.cells #[Value.slice _ n _] 93)) HN.out
        ·rw [HS.out,← HN.out];exact HC.out
        ·rw [HS.out];exact hrow'
        ·exact .inr ⟨_,_,rfl⟩
      ·have hci':¬ (i:Int)=(c:Int):=by omega
       obtain⟨Wh,hWh⟩:=nM (Wg.setCell ⟨W1.heap.size,0,none⟩ (.slice (some ⟨rb,ro+i * 3,none⟩) (rs'.length-i) (c-i)))
       have fh:Fr (Bl.one br) Wg Wh:=hWh▸(Fr.refl (Bl.one br) Wg).setCell (p:=⟨W1.heap.size,0,none⟩) (.inl rfl) _
       have xh:Wh.heap[br]?=some (.cells #[.slice (some ⟨rb,ro+i * 3,none⟩) (rs'.length-i) (c-i)] 93):=(by rw [← hWh];simpa using aF (show Wg.heap[W1.heap.size]?=_ from xg) 0 (.slice (some ⟨rb,ro+i * 3,none⟩) (rs'.length-i) (c-i)))
       have yg:=hF5.heap (show Wf.drew.heap[W.heap.size]?=_ from yF) hYw
       have yh:=fh.heap yg (fun h=>by have h':W.heap.size=W1.heap.size:=h;omega)
       have yh0:Wh.cell? ⟨W.heap.size,0,none⟩=some (.func (.yield l) #[] #[]):=(by simp [World.cell?,yh])
       have x3g:=hF5.heap (show Wf.drew.heap[Wd.heap.size]?=_ from x3F) hYd
       have x3h:=fh.heap x3g (fun h=>by have h':Wd.heap.size=W1.heap.size:=h;have h2:W1.heap.size<Wd.heap.size:=hbr;omega)
       obtain⟨n0,n1,n2,n3⟩:=iA x3h
       have hJh:=sJ _ _ _ _ hJ5 (fh.on (fun k hk=>⟨lJ _ _ _ hJ5 k hk,fun h=>by have h':k=br:=h;rw [h'] at hk;exact hn5 hk⟩))
       have Fgh:Fr Y2 We Wh:=(hfr2 _ hF5).trans (fh.mono (fun k hk=>.inl ((hYi k).2 (.inr hk))))
       have hrow':∀ Wx,aH Wx S ca (cs.flatMap Ch.cells)→aH Wx S (some ⟨rb,ro+i * 3,none⟩) ((rs'.drop i).flatMap Ch.cells):=(fun Wx h=>(hrow Wx h).cut (fun _=>rfl))
       have HN:Hid ((rs'.length-i)=(rs'.drop i).length):=(by show _=_;simp)
       have HC:Hid ((rs'.length-i)≤(c-i)):=(by show _≤_;omega)
       cases fb
       ·have heq:aX es cs=(dn++cW (rs'.take i))++x :: t:=(by rw [HT.out];simp)
        have HEQ:Hid (aX es cs=(dn++cW (rs'.take i))++x :: t):=heq
        clear heq
        have FWh:Fr Y W Wh:=(Ff.grow hF5 Gd).grow fh (fun k hk=>.inr (by have h':k=W1.heap.size:=hk;omega))
        have GW5:aI W Y Y5:=Gd.trans Ff.size hG5
        obtain⟨fn,tmps,assign,body,hy,hRr⟩:=hY _ x _ #[.agg #[.string x.e.key,.string x.e.val,.int .i64 x.e.size,.int .i64 x.e.over]] Bl.none Y5 Wh HEQ.out hJh rfl (fun _ h=>h.elim) FWh GW5
        gi_wp2
        refine⟨rfl,(lZ lk (dF hRr)).mono ?_⟩
        clear hy hRr
        rintro e Wi (⟨rfl,Y6,hJ6,hF6,hG6⟩|⟨rfl,Y6,hJ6,hF6,hG6⟩)
        ·have xi:=hF6.heap xh hn5
         have hn6:¬ Y6 br:=fun h=>(hG6 _ h).elim hn5 (fun h'=>by have h1:Wh.heap.size≤W1.heap.size:=h';have:=(gL xh);have h2:W1.heap.size<Wh.heap.size:=this;omega)
         gi_wp2
         refine⟨fun k=>Y6 k∨k=br,⟨Y6,(some ⟨rb,ro+i * 3,none⟩),c-i,?_,fun k=>Iff.rfl,hn6,?_,?_,?_,?_⟩,?_,?_⟩
         ·rw [HS.out];simpa using hJ6
         ·rw [HS.out];refine xi.trans ?_;exact congrArg (fun n=>some (Obj.cells #[Value.slice _ n _] 93)) HN.out
         ·rw [HS.out,← HN.out];exact HC.out
         ·rw [HS.out];exact hrow'
         ·exact .inr ⟨_,_,rfl⟩
         ·exact Fgh.grow hF6 (fun k hk=>hgrow _ hG5 k (.inl hk))
         ·intro k hk
          rcases hk with hk|rfl
          ·rcases hG6 k hk with h|h
           ·exact hgrow _ hG5 k (.inl h)
           ·exact .inr (vJ Fgh.size h)
          ·exact .inl ((hYi _).2 (.inr rfl))
        ·have xi:=hF6.heap xh hn5
         gi_wp2
         refine⟨fun k=>Y6 k∨k=br,⟨rfl,Y6,_,by rw [HEQ.out];exact⟨t,by simp⟩,by simp,hJ6,fun k h=>.inl h,?_⟩,Fgh.grow hF6 (fun k hk=>hgrow _ hG5 k (.inl hk)),?_⟩
         ·rintro k (hk|rfl)
          ·exact lJx _ _ _ hJ6 k hk
          ·exact(gL xi)
         ·intro k hk
          rcases hk with hk|rfl
          ·rcases hG6 k hk with h|h
           ·exact hgrow _ hG5 k (.inl h)
           ·exact .inr (vJ Fgh.size h)
          ·exact .inl ((hYi _).2 (.inr rfl))
       ·gi_wp2
        refine⟨fun _ h=>(by cases h),?_⟩
        gi_wp2
        refine⟨fun k=>Y5 k∨k=br,⟨Y5,(some ⟨rb,ro+i * 3,none⟩),c-i,?_,fun k=>Iff.rfl,hn5,?_,?_,?_,?_⟩,Fgh,hgrow _ hG5⟩
        ·rw [HS.out];simpa using hJh
        ·rw [HS.out];refine xh.trans ?_;exact congrArg (fun n=>some (Obj.cells #[Value.slice _ n _] 93)) HN.out
        ·rw [HS.out,← HN.out];exact HC.out
        ·rw [HS.out];exact hrow'
        ·exact .inr ⟨_,_,rfl⟩
    ·simp at hb
 ·rintro D Y2 Wg hD hYD ⟨Yj,a,c,hJg,hYi,hnb,xb,hlc,hrow,hsh⟩ hFg hGg hDW
  have xbg:Wg.heap[W1.heap.size]?=_:=xb
  have cg:Wg.cell? ⟨W1.heap.size,0,none⟩=some (.slice a (fO es cs).2.length c):=by simp [World.cell?,xbg]
  have yg:=hFg.heap y2 (fun h=>h.elim (fun h=>by have:=lY _ h;omega) (fun h=>by simp only [br] at h;omega))
  have yg0:Wg.cell? ⟨W.heap.size,0,none⟩=some (.func (.yield l) #[] #[]):=by simp [World.cell?,yg]
  have FW:Fr Y W Wg:=F2.grow hFg (fun k hk=>hk.elim .inl (fun h=>.inr (by subst h;show W.heap.size≤W1.heap.size;omega)))
  have GW:aI W Y Yj:=fun k hk=>by
   rcases hGg k ((hYi k).2 (.inl hk)) with(h|h)|h
   ·exact .inl h
   ·exact .inr (by subst h;show W.heap.size≤W1.heap.size;omega)
   ·exact .inr (by omega)
  have og:On Rd w Wg:=o2.trans (hFg.on (fun k hk=>⟨by have:=(hRd k hk).2;omega,fun h=>h.elim (hRd k hk).1 (hRb k hk)⟩))
  obtain⟨hrise,hrl⟩:=Dc hr es
  have hYjR:∀ k,Rd k→¬ Yj k:=fun k hk h=>(GW k h).elim (hRd k hk).1 (fun h'=>by have:=(hRd k hk).2;omega)
  have hTl:=Kh l (aX es cs) J Jx sJ lJ Y W hY a c (fO es cs).2 S (fO es cs).1 [] Yj Wg (by simp [aX]) (hrow Wg (hR.on (og.mono rs))) (fun b hb=>⟨hYjR b (rs b hb),by have:=(hRd b (rs b hb)).2;have:=FW.size;omega⟩) (by omega) hlc hJg FW GW
  have hDY:¬ Yj D:=fun h=>hYD ((hYi D).2 (.inl h))
  gi_wp2_with (refine⟨trivial,rfl,?_⟩;gi_at_call 149;refine hTl.mono ?_;clear hTl;rintro e Wh (⟨rfl,Y5,hJ5,hF5,hG5⟩|⟨rfl,Y5,pp,hp,hne,hJ5,hF5,hG5⟩))
  all_goals
   have hDh:=hF5.heap hDW hDY
   have hD5:¬ Y5 D:=fun h=>(hG5 _ h).elim hDY (fun h'=>by have:=(gL hDW);omega)
   have FF:Fr Y W (Wh.putObj D (.deferred none)):=(FW.grow hF5 GW).putObj (.inr (by omega)) _
   have GG:aI W Y Y5:=GW.trans FW.size hG5
   have oo:On Y5 Wh (Wh.putObj D (.deferred none)):=(On.refl _ _).putObj hD5 _
  ·gi_wp2
   exact lO rfl hDh ⟨⟨_,rfl⟩,Y5,FF,GG,.inl (sJ _ _ _ _ hJ5 oo)⟩
  ·gi_wp2
   exact lO rfl hDh ⟨⟨_,rfl⟩,Y5,FF,GG,.inr ⟨pp,hp,hne,sJx _ _ _ _ hJ5 oo⟩⟩
 ·rintro D c pre Y2 Wg hD hYD hpre hne ⟨rfl,Yj,pp,h1,h2,h3,h4,h5⟩ hFg hGg hDW
  gi_wp2
  refine lO rfl hDW ⟨⟨_,rfl⟩,Yj,?_,?_,.inr ⟨pp,h1,h2,sJx _ _ _ _ h3 ((On.refl _ _).putObj (fun h=>hYD (h4 _ h)) _)⟩⟩
  ·exact(F2.grow hFg (fun k hk=>hk.elim .inl (fun h=>.inr (by subst h;show W.heap.size≤W1.heap.size;omega)))).putObj (.inr (by omega)) _
  ·intro k hk
   rcases hGg k (h4 k hk) with(h|h)|h
   ·exact .inl h
   ·exact .inr (by subst h;show W.heap.size≤W1.heap.size;omega)
   ·exact .inr (by omega)
variable {c:Ch} {cs:List Ch} {fs:Fs}
def ovr:List En→List Ch→List En
 | [],cs=>cW cs
 | x :: es,cs=>cW (cs.take (cS cs x.e.key))++((if fnd cs x.e.key=true then [] else [x])++ovr es (cs.drop (cS cs x.e.key)))
theorem Hk:∀ (es:List En) (a:List En×List Ch),(es.foldl lU a).1++cW (es.foldl lU a).2=a.1++ovr es a.2
 | [],a=>rfl
 | x :: es,a=>by
  rw [List.foldl_cons,Hk es (lU a x)]
  simp [lU,ovr,List.append_assoc]
theorem oJ (es:List En) (cs:List Ch):aX es cs=ovr es cs:=by
 have:=Hk es ([],cs)
 simpa [aX,fO] using this
def cO (es:List En):Prop:=es.Pairwise (fun a b=>lt a.e.key b.e.key=true)
theorem Ce {y:En}:y∈cW cs↔∃ c∈cs,c.gone=false∧y=chE c:=by
 unfold cW
 simp only [List.mem_map,List.mem_filter,Bool.not_eq_true']
 constructor
 ·rintro⟨c,⟨h1,h2⟩,rfl⟩;exact⟨c,h1,h2,rfl⟩
 ·rintro⟨c,h1,h2,rfl⟩;exact⟨c,⟨h1,h2⟩,rfl⟩
theorem zN {k:ByteArray}  (h:c∈cs.take (cS cs k)):lt c.key k=true:=by
 obtain⟨i,hi,rfl⟩:=List.getElem_of_mem h
 rw [List.length_take] at hi
 rw [List.getElem_take]
 obtain⟨_,h'⟩:=rZ (cs:=cs) (k:=k) (i:=i) (by omega)
 exact h'
theorem qCv (hr:cH cs) {k:ByteArray}  (h:c∈cs.drop (cS cs k)):lt c.key k=false:=by
 obtain⟨i,hi,rfl⟩:=List.getElem_of_mem h
 rw [List.length_drop] at hi
 rw [List.getElem_drop]
 exact pL hr (by omega) (by omega)
theorem Ab (hr:cH cs) (k:ByteArray):fnd cs k=true↔∃ c∈cs,c.key=k:=by
 unfold fnd
 cases h:cs[cS cs k]? with
 | none =>
  simp only [Bool.false_eq_true,false_iff]
  rintro⟨c,hc,rfl⟩
  rw [List.getElem?_eq_none_iff] at h
  obtain⟨i,hi,rfl⟩:=List.getElem_of_mem hc
  obtain⟨_,h'⟩:=rZ (cs:=cs) (k:=cs[i].key) (i:=i) (by omega)
  rw [cC] at h';cases h'
 | some c =>
  obtain⟨hi,hc⟩:=List.getElem?_eq_some_iff.1 h
  have hge:lt c.key k=false:=by rw [← hc];exact pL hr (jU _) hi
  simp only [Bool.not_eq_true']
  constructor
  ·intro hl
   exact⟨c,hc▸List.getElem_mem hi,mI hge hl⟩
  ·rintro⟨d,hd,rfl⟩
   obtain⟨j,hj,rfl⟩:=List.getElem_of_mem hd
   rcases Nat.lt_trichotomy j (cS cs cs[j].key) with h1|h1|h1
   ·obtain⟨_,h'⟩:=rZ h1
    rw [cC] at h';cases h'
   ·have:cs[j]=c:=by rw [← hc];congr 1
    rw [← this];exact cC _
   ·have hp:=List.pairwise_iff_getElem.1 hr _ j hi hj h1
    rw [hc] at hp
    rw [hge] at hp;cases hp
theorem wK (n:Nat) :c∈cs↔c∈cs.take n∨c∈cs.drop n:=by
 conv=>lhs;rw [← List.take_append_drop n cs]
 exact List.mem_append
theorem uU:∀ (es:List En) (cs:List Ch),cO es→cH cs→∀ y,y∈ovr es cs↔(∃ c∈cs,c.gone=false∧y=chE c)∨(y∈es∧∀ c∈cs,c.key≠y.e.key)
 | [],cs,_,_,y=>by simp only [ovr,Ce,List.not_mem_nil,false_and,or_false]
 | x :: es,cs,he,hr,y=>by
  have hrd:cH (cs.drop (cS cs x.e.key)):=List.Pairwise.sublist (List.drop_sublist _ _) hr
  obtain⟨hx,he'⟩:=List.pairwise_cons.1 he
  simp only [ovr,List.mem_append,Ce,uU es _ he' hrd y]
  have hfi:=Ab hr x.e.key
  constructor
  ·rintro(⟨c,hc,hg,rfl⟩|hy|⟨c,hc,hg,rfl⟩|⟨hy,hn⟩)
   ·exact .inl ⟨c,List.mem_of_mem_take hc,hg,rfl⟩
   ·split at hy
    ·simp at hy
    ·rename_i hf
     obtain rfl:=List.mem_singleton.1 hy
     exact .inr ⟨by simp,fun c hc e=>hf (hfi.2 ⟨c,hc,e⟩)⟩
   ·exact .inl ⟨c,List.mem_of_mem_drop hc,hg,rfl⟩
   ·refine .inr ⟨List.mem_cons_of_mem _ hy,fun c hc e=>?_⟩
    rcases (wK (cS cs x.e.key)).1 hc with h|h
    ·have h1:=zN h
     have h2:=fS h1 (hx y hy)
     rw [e,cC] at h2;cases h2
    ·exact hn c h e
  ·rintro(⟨c,hc,hg,rfl⟩|⟨hy,hn⟩)
   ·rcases (wK (cS cs x.e.key)).1 hc with h|h
    ·exact .inl ⟨c,h,hg,rfl⟩
    ·exact .inr (.inr (.inl ⟨c,h,hg,rfl⟩))
   ·rcases List.mem_cons.1 hy with rfl|hy
    ·refine .inr (.inl ?_)
     rw [if_neg (fun hf=>by obtain⟨c,hc,e⟩:=hfi.1 hf;exact hn c hc e)]
     simp
    ·exact .inr (.inr (.inr ⟨hy,fun c hc=>hn c (List.mem_of_mem_drop hc)⟩))
theorem Fy (hr:cH cs):cO (cW cs):=by
 unfold cW cO
 rw [List.pairwise_map]
 exact List.Pairwise.filter _ hr
theorem qN:∀ (es:List En) (cs:List Ch),cO es→cH cs→cO (ovr es cs)
 | [],cs,_,hr=>Fy hr
 | x :: es,cs,he,hr=>by
  have hrd:cH (cs.drop (cS cs x.e.key)):=List.Pairwise.sublist (List.drop_sublist _ _) hr
  obtain⟨hx,he'⟩:=List.pairwise_cons.1 he
  have hrest:∀ y∈ovr es (cs.drop (cS cs x.e.key)),lt y.e.key x.e.key=false∧(fnd cs x.e.key=false→lt x.e.key y.e.key=true):=by
   intro y hy
   rcases (uU es _ he' hrd y).1 hy with⟨c,hc,_,rfl⟩|⟨hy,_⟩
   ·have h1:=qCv hr hc
    refine⟨h1,fun hf=>?_⟩
    cases h2:lt x.e.key c.key with
    | true=>exact h2
    | false =>
     have:=(Ab hr x.e.key).2 ⟨c,List.mem_of_mem_drop hc,mI h1 h2⟩
     rw [hf] at this;cases this
   ·exact⟨uV (hx y hy),fun _=>hx y hy⟩
  have htk:∀ y∈cW (cs.take (cS cs x.e.key)),lt y.e.key x.e.key=true:=by
   intro y hy
   obtain⟨c,hc,_,rfl⟩:=Ce.1 hy
   exact zN hc
  have ih:=qN es _ he' hrd
  simp only [ovr]
  refine List.pairwise_append.2 ⟨Fy (List.Pairwise.sublist (List.take_sublist _ _) hr),List.pairwise_append.2 ⟨?_,ih,?_⟩,?_⟩
  ·split<;>simp
  ·intro a ha b hb
   split at ha
   ·simp at ha
   ·rename_i hf
    obtain rfl:=List.mem_singleton.1 ha
    exact(hrest b hb).2 (by simpa using hf)
  ·intro a ha b hb
   rcases List.mem_append.1 hb with hb|hb
   ·split at hb
    ·simp at hb
    ·obtain rfl:=List.mem_singleton.1 hb
     exact htk a ha
   ·exact bT (htk a ha) (Bu.1 (hrest b hb).1)
theorem kJ {α:Type}:∀ (s:Sp) (ks:List ByteArray) (kids:List α),kids.length=ks.length+1→ks.Pairwise (fun a b=>lt a b=true)→(∀ k∈ks,lt s.lo k=true∧Sp.below s.hi k=true)→(parts s ks kids).Pairwise (fun x y=>x.2.hi≠⟨#[]⟩∧le x.2.hi y.2.lo=true)
 | s,_,[],hl,_,_=>by simp at hl
 | s,[],k :: kids,hl,_,_=>by
  have:kids=[]:=List.eq_nil_of_length_eq_zero (by simpa using hl)
  subst this
  simp [parts]
 | s,q :: ks,k :: kids,hl,hp,hb=>by
  obtain⟨hq,hp'⟩:=List.pairwise_cons.1 hp
  obtain⟨b1,b2⟩:=hb q (by simp)
  have hl':kids.length=ks.length+1:=by simpa using hl
  have hb':∀ x∈ks,lt q x=true∧Sp.below s.hi x=true:=fun x hx=>⟨hq x hx,(hb x (by simp [hx])).2⟩
  simp only [parts]
  refine List.pairwise_cons.2 ⟨fun y hy=>⟨fun e=>?_,(Bj ⟨q,s.hi⟩ ks kids hl' hp' hb' y hy).1⟩,kJ ⟨q,s.hi⟩ ks kids hl' hp' hb'⟩
  have e':q=⟨#[]⟩:=e
  rw [e',Zl] at b1;cases b1
theorem dG:∀ {h:Nat} {t:T} {s:Sp},bH fs h t s→cO (T.ents h t)
 | 0,.leaf p es,s,ht=>by
  obtain⟨g,hg,hk,he,_⟩:=ht
  have:=(Mq hg hk).1
  rw [he,List.pairwise_map] at this
  exact this
 | 0,.branch _ _ _,s,ht=>by simp [T.ents,cO]
 | h+1,.leaf _ _,s,ht=>by simp [bH] at ht
 | h+1,.branch p ks kids,s,ht=>by
  obtain⟨hl,hp,hb,_,hall⟩:=fH ht
  have hpp:=kJ s ks kids hl hp hb
  have key:∀ (l:List (T×Sp)),(∀ x∈l,bH fs h x.1 x.2)→l.Pairwise (fun x y=>x.2.hi≠⟨#[]⟩∧le x.2.hi y.2.lo=true)→cO ((l.map (·.1)).flatMap (T.ents h)):=by
   intro l hl hp
   induction l with
   | nil=>exact .nil
   | cons x l ih =>
    obtain⟨hx,hp'⟩:=List.pairwise_cons.1 hp
    rw [List.map_cons,List.flatMap_cons]
    refine List.pairwise_append.2 ⟨dG (hl x (by simp)),ih (fun y hy=>hl y (by simp [hy])) hp',?_⟩
    intro a ha b hb
    obtain⟨k,hk,hb⟩:=List.mem_flatMap.1 hb
    obtain⟨y,hy,rfl⟩:=List.mem_map.1 hk
    obtain⟨n1,n2⟩:=hx y hy
    have ia:=sN (hl x (by simp)) a ha
    have ib:=sN (hl y (by simp [hy])) b hb
    unfold Sp.has at ia ib
    rw [Bool.and_eq_true] at ia ib
    have la:lt a.e.key x.2.hi=true:=by
     rcases fA.1 ia.2 with h|h
     ·exact absurd h n1
     ·exact h
    exact bT (bT la n2) ib.1
  have:=key _ hall hpp
  rw [gO] at this
  simpa only [T.ents] using this
def dD:Option (Nat×T)→List En
 | none=>[]
 | some (h,t)=>T.ents h t
theorem pR {root:Nat} {o:Option (Nat×T)} (hro:bI fs root o) (q:Sp):cQ q o=(dD o).filter (fun x=>q.has x.e.key):=by
 cases o with
 | none=>rfl
 | some x=>exact Lf q hro.2.2
theorem dX {root:Nat} {o:Option (Nat×T)} (hro:bI fs root o):cO (dD o):=by
 cases o with
 | none=>exact .nil
 | some x=>exact dG hro.2.2
theorem pY {α:Type} (p:α→Bool):∀ (l:List α) (a b:Nat),(∀ m (h:m<l.length),p l[m]=(decide (a≤m)&&decide (m<b)))→l.filter p=(l.take b).drop a
 | [],_,_,_=>by simp
 | x :: l,a,0,h=>by
  rw [List.take_zero,List.drop_nil,List.filter_eq_nil_iff]
  intro y hy
  obtain⟨m,hm,rfl⟩:=List.getElem_of_mem hy
  rw [h m hm];simp
 | x :: l,0,b+1,h=>by
  have h0:=h 0 (by simp)
  simp only [List.getElem_cons_zero] at h0
  have hx:p x=true:=by rw [h0];simp
  rw [List.filter_cons_of_pos hx,List.take_succ_cons,List.drop_zero,pY p l 0 b (fun m hm=>by
   have:=h (m+1) (by simpa using hm)
   simp only [List.getElem_cons_succ] at this
   rw [this];simp),List.drop_zero]
 | x :: l,a+1,b+1,h=>by
  have h0:=h 0 (by simp)
  simp only [List.getElem_cons_zero] at h0
  have hx:¬ p x=true:=by rw [h0];simp
  rw [List.filter_cons_of_neg hx,List.take_succ_cons,List.drop_succ_cons,pY p l a b (fun m hm=>by
   have:=h (m+1) (by simpa using hm)
   simp only [List.getElem_cons_succ] at this
   rw [this];simp)]
theorem Sj (hr:cH cs) (k:ByteArray) (m:Nat) (hm:m<cs.length):lt cs[m].key k=decide (m<cS cs k):=by
 by_cases h:m<cS cs k
 ·obtain⟨_,h'⟩:=rZ h
  rw [h'];simp [h]
 ·rw [pL hr (by omega) hm];simp [h]
def dV (cs:List Ch) (q:Sp):List Ch:=cs.filter (fun c=>q.has c.key)
theorem qBz (hr:cH cs) (q:Sp) (b:Nat) (hb:b=if isNil q.hi=true then cs.length else cS cs q.hi):dV cs q=(cs.take (max (cS cs q.lo) b)).drop (cS cs q.lo):=by
 refine pY _ cs _ _ (fun m hm=>?_)
 have h1:lt cs[m].key q.lo=decide (m<cS cs q.lo):=Sj hr q.lo m hm
 have h2:Sp.below q.hi cs[m].key=decide (m<b):=by
  unfold Sp.below
  cases hn:isNil q.hi
  ·rw [hn] at hb
   simp only [Bool.false_or]
   simp only [Bool.false_eq_true,if_false] at hb
   rw [hb];exact Sj hr q.hi m hm
  ·rw [hn] at hb
   simp only [if_true] at hb
   rw [hb];simp [hm]
 unfold Sp.has le
 rw [h1,h2]
 by_cases ha:m<cS cs q.lo
 ·have:¬ cS cs q.lo≤m:=by omega
  simp [ha,this]
 ·have h3:cS cs q.lo≤m:=by omega
  simp only [ha,h3,decide_false,decide_true,Bool.not_false,Bool.true_and]
  congr 1
  apply propext
  omega
def Ju (S:Bl) (ca:Option Addr) (cs:List Ch) (a:Option Addr) (c:Nat) (own:List Ch):Prop :=
 own.length≤c∧(∀ Wx,aH Wx S ca (cs.flatMap Ch.cells)→aH Wx S a (own.flatMap Ch.cells))∧((a=none∧c=0)∨∃ b off,a=some ⟨b,off,none⟩)
theorem To {S:Bl} {b off cc:Nat} {cs own:List Ch} (n t:Nat) (hcc:cs.length≤cc) (hn:n≤t) (ht:t≤cs.length) (ho:own=(cs.take t).drop n):Ju S (some ⟨b,off,none⟩) cs (if cc=n then some ⟨b,off,none⟩ else some ⟨b,off+n * 3,none⟩) (cc-n) own:=by
 have hl:own.length=t-n:=by rw [ho,List.length_drop,List.length_take];omega
 refine⟨by omega,fun Wx h=>?_,?_⟩
 ·by_cases hc:cc=n
  ·exact .inl (by rw [List.eq_nil_of_length_eq_zero (by omega:own.length=0)];rfl)
  ·rw [if_neg hc,ho]
   exact(h.takeZ (z:=3) t).dropZ n (fun x _=>rfl) (by rw [List.length_take];omega)
 ·by_cases hc:cc=n
  ·exact .inr ⟨b,off,by rw [if_pos hc]⟩
  ·exact .inr ⟨b,off+n * 3,by rw [if_neg hc]⟩
theorem Xw (a:ByteArray):(a.toList==([]:List UInt8))=isNil a:=by
 unfold isNil;cases a.toList<;>rfl
theorem Al (ca:Option Addr) (cc:Nat) (cs:List Ch) (q:Sp) (S:Bl) (w:World) (hR:aH w S ca (cs.flatMap Ch.cells)) (hS:∀ b,S b→b<w.heap.size) (hr:cH cs) (hn:cs.length≤1000000) (hc:cs.length≤cc) (hca:(ca=none∧cc=0)∨∃ b off,ca=some ⟨b,off,none⟩) :
  Calls Tryz.prog 137 #[.slice ca cs.length cc,.agg #[.string q.lo,.string q.hi]] w fun e w'=>∃ a c,e=.returned (.slice a (dV cs q).length c)∧Ju S ca cs a c (dV cs q)∧Below w.heap.size w w':=by
 obtain⟨W1,hW1⟩:=nM (w.alloc (.cells #[.string q.lo,.string q.hi] 135))
 have b1:Below w.heap.size w W1:=hW1▸(bA _ _)
 have x1:W1.heap[w.heap.size]?=some (.cells #[.string q.lo,.string q.hi] 135):=hW1▸aA w _
 obtain⟨m0,m1⟩:=bU x1
 have z1:=(gL x1)
 have hsr:∀ W k,Below w.heap.size w W→Calls Tryz.prog 72 #[.slice ca cs.length cc,.string k] W fun e w'=>e=.returned (.tuple #[.int .i64 (cS cs k),.bool (fnd cs k)])∧Below W.heap.size W w':=fun W k h=>lW ca cc cs k S W (hR.on (vV h hS)) (fun b hb=>jY (hS b hb) h.size) hr hn hc
 have hle:=pK cs q.lo
 have hle2:=pK cs q.hi
 have hE:=fun b hb=>qBz hr q b hb
 obtain⟨n,hn'⟩:∃ n,cS cs q.lo=n:=⟨_,rfl⟩
 obtain⟨t,ht'⟩:∃ t,cS cs q.hi=t:=⟨_,rfl⟩
 have hs1:=hsr W1 q.lo b1
 rw [hn'] at hle hs1
 simp only [hn',ht'] at hE
 rw [ht'] at hle2
 have hs2:=fun W h=>hsr W q.hi h
 simp only [ht'] at hs2
 clear hn' ht' hsr
 go_enter Tryz.func137,Tryz.ntmps137
 cases hnil:isNil q.hi
 ·have hne:(q.hi.toList==([]:List UInt8))=false:=by rw [Xw,hnil]
  have hO:Hid (dV cs q=(cs.take (max n t)).drop n):=hE t (by simp [hnil])
  have hOl:Hid ((dV cs q).length=max n t-n):=by show _=_;rw [hO.out,List.length_drop,List.length_take];omega
  clear hE
  rcases hca with⟨rfl,rfl⟩|⟨rb,ro,rfl⟩
  ·obtain rfl:cs=[]:=List.eq_nil_of_length_eq_zero (by omega)
   obtain rfl:n=0:=by simpa using hle
   obtain rfl:t=0:=by simpa using hle2
   go_wp2_with (go_at_call 72;first|(refine hs1.mono ?_;clear hs1;rintro e w2 ⟨rfl,hb2⟩;have b2:Below w.heap.size w w2:=b1.trans (hb2.mono b1.size);obtain⟨e0,e1⟩:=bU ((hb2.block w.heap.size z1).trans x1))|(refine(hs2 _ b2).mono ?_;rintro e w3 ⟨rfl,hb3⟩;have b3:Below w.heap.size w w3:=b2.trans (hb3.mono b2.size)))
   go_ret
   exact⟨none,0,by rw [hOl.out];rfl,⟨by rw [hOl.out];simp,fun _ _=>.inl (by rw [List.eq_nil_of_length_eq_zero (by rw [hOl.out];rfl:(dV [] q).length=0)];rfl),.inl ⟨rfl,rfl⟩⟩,b3⟩
  ·skip
   have key:Ju S (some ⟨rb,ro,none⟩) cs (if cc=n then some ⟨rb,ro,none⟩ else some ⟨rb,ro+n * 3,none⟩) (cc-n) (dV cs q):=To n (max n t) hc (by omega) (by omega) hO.out
   by_cases hcn:cc=n
   ·subst cc
    have HOL:Hid ((dV cs q).length=0):=by show _=_;rw [hOl.out];omega
    have KEY:Hid (Ju S (some ⟨rb,ro,none⟩) cs (some ⟨rb,ro,none⟩) 0 (dV cs q)):=by rw [if_pos rfl,Nat.sub_self] at key;exact key
    have hts:(t:Int)≤(n:Int):=by omega
    clear hO hOl key
    go_wp2_with (go_at_call 72;first|(refine hs1.mono ?_;clear hs1;rintro e w2 ⟨rfl,hb2⟩;have b2:Below w.heap.size w w2:=b1.trans (hb2.mono b1.size);obtain⟨e0,e1⟩:=bU ((hb2.block w.heap.size z1).trans x1))|(refine(hs2 _ b2).mono ?_;rintro e w3 ⟨rfl,hb3⟩;have b3:Below w.heap.size w w3:=b2.trans (hb3.mono b2.size)))
    all_goals go_ret
    all_goals exact⟨_,_,by rw [HOL.out];first|rfl|(simp;done)|(simp;omega),KEY.out,b3⟩
   ·have KEY:Hid (Ju S (some ⟨rb,ro,none⟩) cs (some ⟨rb,ro+n * 3,none⟩) (cc-n) (dV cs q)):=by rw [if_neg hcn] at key;exact key
    clear key
    by_cases hnt:n≤t
    ·have HOL:Hid ((dV cs q).length=t-n):=by show _=_;rw [hOl.out];omega
     have hnti:(n:Int)≤(t:Int):=by omega
     clear hO hOl
     go_wp2_with (go_at_call 72;first|(refine hs1.mono ?_;clear hs1;rintro e w2 ⟨rfl,hb2⟩;have b2:Below w.heap.size w w2:=b1.trans (hb2.mono b1.size);obtain⟨e0,e1⟩:=bU ((hb2.block w.heap.size z1).trans x1))|(refine(hs2 _ b2).mono ?_;rintro e w3 ⟨rfl,hb3⟩;have b3:Below w.heap.size w w3:=b2.trans (hb3.mono b2.size)))
     all_goals go_ret
     all_goals exact⟨_,_,by rw [HOL.out];first|rfl|(simp;done)|(simp;omega),KEY.out,b3⟩
    ·have HOL:Hid ((dV cs q).length=n-n):=by show _=_;rw [hOl.out];omega
     have hnti:(t:Int)<(n:Int):=by omega
     clear hO hOl
     go_wp2_with (go_at_call 72;first|(refine hs1.mono ?_;clear hs1;rintro e w2 ⟨rfl,hb2⟩;have b2:Below w.heap.size w w2:=b1.trans (hb2.mono b1.size);obtain⟨e0,e1⟩:=bU ((hb2.block w.heap.size z1).trans x1))|(refine(hs2 _ b2).mono ?_;rintro e w3 ⟨rfl,hb3⟩;have b3:Below w.heap.size w w3:=b2.trans (hb3.mono b2.size)))
     all_goals go_ret
     all_goals exact⟨_,_,by rw [HOL.out];first|rfl|(simp;done)|(simp;omega),KEY.out,b3⟩
 ·have hne:(q.hi.toList==([]:List UInt8))=true:=by rw [Xw,hnil]
  have hO:Hid (dV cs q=(cs.take (max n cs.length)).drop n):=hE cs.length (by simp [hnil])
  have hOl:Hid ((dV cs q).length=max n cs.length-n):=by show _=_;rw [hO.out,List.length_drop,List.length_take];omega
  clear hE
  rcases hca with⟨rfl,rfl⟩|⟨rb,ro,rfl⟩
  ·obtain rfl:cs=[]:=List.eq_nil_of_length_eq_zero (by omega)
   obtain rfl:n=0:=by simpa using hle
   go_wp2_with (go_at_call 72;refine hs1.mono ?_;clear hs1;rintro e w2 ⟨rfl,hb2⟩;have b2:Below w.heap.size w w2:=b1.trans (hb2.mono b1.size);obtain⟨e0,e1⟩:=bU ((hb2.block w.heap.size z1).trans x1))
   go_ret
   exact⟨none,0,by rw [hOl.out];rfl,⟨by rw [hOl.out];simp,fun _ _=>.inl (by rw [List.eq_nil_of_length_eq_zero (by rw [hOl.out];rfl:(dV [] q).length=0)];rfl),.inl ⟨rfl,rfl⟩⟩,b2⟩
  ·skip
   have key:Ju S (some ⟨rb,ro,none⟩) cs (if cc=n then some ⟨rb,ro,none⟩ else some ⟨rb,ro+n * 3,none⟩) (cc-n) (dV cs q):=To n (max n cs.length) hc (by omega) (by omega) hO.out
   by_cases hcn:cc=n
   ·subst cc
    have HOL:Hid ((dV cs q).length=0):=by show _=_;rw [hOl.out];omega
    have KEY:Hid (Ju S (some ⟨rb,ro,none⟩) cs (some ⟨rb,ro,none⟩) 0 (dV cs q)):=by rw [if_pos rfl,Nat.sub_self] at key;exact key
    have hts:(cs.length:Int)≤(n:Int):=by omega
    clear hO hOl key
    go_wp2_with (go_at_call 72;refine hs1.mono ?_;clear hs1;rintro e w2 ⟨rfl,hb2⟩;have b2:Below w.heap.size w w2:=b1.trans (hb2.mono b1.size);obtain⟨e0,e1⟩:=bU ((hb2.block w.heap.size z1).trans x1))
    all_goals go_ret
    all_goals exact⟨_,_,by rw [HOL.out];first|rfl|(simp;done)|(simp;omega),KEY.out,b2⟩
   ·have KEY:Hid (Ju S (some ⟨rb,ro,none⟩) cs (some ⟨rb,ro+n * 3,none⟩) (cc-n) (dV cs q)):=by rw [if_neg hcn] at key;exact key
    clear key
    by_cases hnt:n≤cs.length
    ·have HOL:Hid ((dV cs q).length=cs.length-n):=by show _=_;rw [hOl.out];omega
     have hnti:(n:Int)≤(cs.length:Int):=by omega
     clear hO hOl
     go_wp2_with (go_at_call 72;refine hs1.mono ?_;clear hs1;rintro e w2 ⟨rfl,hb2⟩;have b2:Below w.heap.size w w2:=b1.trans (hb2.mono b1.size);obtain⟨e0,e1⟩:=bU ((hb2.block w.heap.size z1).trans x1))
     all_goals go_ret
     all_goals exact⟨_,_,by rw [HOL.out];first|rfl|(simp;done)|(simp;omega),KEY.out,b2⟩
    ·exact absurd hle hnt
