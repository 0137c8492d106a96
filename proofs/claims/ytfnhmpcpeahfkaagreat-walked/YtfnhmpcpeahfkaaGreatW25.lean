/-
  Joined: Search, Search2, PTorn.
-/
import Derived.Test.YtfnhmpcpeahfkaaGreatW22
set_option linter.unusedSimpArgs false
set_option linter.unusedVariables false
set_option maxRecDepth 100000
set_option maxHeartbeats 8000000
namespace Go.Proofs.YtfnhmpcpeahfkaaGreat.Tree
open Go.RowKit Pages
structure Ch where
 key:ByteArray
 val:ByteArray
 gone:Bool
def Ch.cells (c:Ch):List Value:=[.string c.key,.string c.val,.bool c.gone]
def Rise (cs:List Ch):Prop:=cs.Pairwise (fun a b=>lt a.key b.key=true)
def srch:List Ch→ByteArray→Nat
 | [],_=>0
 | c :: cs,k=>if lt c.key k=true then srch cs k+1 else 0
def fnd (cs:List Ch) (k:ByteArray):Bool:=match cs[srch cs k]? with|some c=>!lt k c.key|none=>false
theorem srch_le:∀ (cs:List Ch) (k:ByteArray),srch cs k≤cs.length
 | [],_=>jU _
 | c :: cs,k=>by
  have:=srch_le cs k
  simp only [srch,List.length_cons]
  split<;>omega
theorem srch_lt:∀ {cs:List Ch} {k:ByteArray} {i:Nat},i<srch cs k→∃ h:i<cs.length,lt cs[i].key k=true
 | [],_,i,hi=>by simp [srch] at hi
 | c :: cs,k,i,hi=>by
  simp only [srch] at hi
  split at hi
  ·rename_i hc
   cases i with
   | zero=>exact⟨by simp,hc⟩
   | succ i =>
    obtain⟨h,h'⟩:=srch_lt (cs:=cs) (k:=k) (i:=i) (by omega)
    exact⟨by simpa using h,h'⟩
  ·omega
theorem srch_ge:∀ {cs:List Ch} {k:ByteArray},Rise cs→∀ {i:Nat},srch cs k≤i→∀ (hl:i<cs.length),lt cs[i].key k=false
 | [],_,_,i,_,hl=>by simp at hl
 | c :: cs,k,hr,i,hi,hl=>by
  obtain⟨h1,h2⟩:=List.pairwise_cons.1 hr
  simp only [srch] at hi
  split at hi
  ·cases i with
   | zero=>omega
   | succ i=>exact srch_ge h2 (by omega) (by simpa using hl)
  ·rename_i hc
   have hc':lt c.key k=false:=by simpa using hc
   cases i with
   | zero=>exact hc'
   | succ i =>
    have hm:=h1 (cs[i]'(by simpa using hl)) (List.getElem_mem _)
    cases hx:lt (cs[i]'(by simpa using hl)).key k
    ·exact hx
    ·have:=lt_trans hm hx;rw [hc'] at this;cases this
theorem srch_eq {cs:List Ch} {k:ByteArray} (hr:Rise cs) {i:Nat} (hi:i≤cs.length) (h1:∀ j (h:j<cs.length),j<i→lt cs[j].key k=true) (h2:∀ j (h:j<cs.length),i≤j→lt cs[j].key k=false):srch cs k=i:=by
 have hl:=srch_le cs k
 by_cases h:srch cs k<i
 ·have a:=h1 (srch cs k) (by omega) h
  have b:=srch_ge hr (jU _) (by omega:srch cs k<cs.length)
  rw [a] at b;cases b
 ·by_cases h':i<srch cs k
  ·obtain⟨hh,a⟩:=srch_lt h'
   have b:=h2 i hh (jU _)
   rw [a] at b;cases b
  ·omega
theorem ch_cells_at {l:List Ch} {j:Nat} (hj:j<l.length):(l.flatMap Ch.cells)[j * 3]?=some (.string (l[j]).key)∧(l.flatMap Ch.cells)[j * 3+1]?=some (.string (l[j]).val)∧(l.flatMap Ch.cells)[j * 3+2]?=some (.bool (l[j]).gone):=by
 induction l generalizing j with
 | nil=>simp at hj
 | cons x l ih =>
  cases j with
  | zero=>simp [Ch.cells]
  | succ j =>
   have:=ih (j:=j) (by simpa using hj)
   have e0:(j+1) * 3=j * 3+3:=by omega
   have e1:(j+1) * 3+1=j * 3+1+3:=by omega
   have e2:(j+1) * 3+2=j * 3+2+3:=by omega
   rw [e1,e2,e0]
   simpa [Ch.cells] using this
theorem RowOn.ch {w:World} {S:Bl} {a:Option Addr} {l:List Ch} {j:Nat} (h:RowOn w S a (l.flatMap Ch.cells)) (hj:j<l.length):∃ b off,a=some ⟨b,off,none⟩∧S b∧w.cell? ⟨b,off+j * 3,none⟩=some (.string (l[j]).key)∧w.cell? ⟨b,off+j * 3+1,none⟩=some (.string (l[j]).val)∧w.cell? ⟨b,off+j * 3+2,none⟩=some (.bool (l[j]).gone):=by
 obtain⟨c0,c1,c2⟩:=ch_cells_at hj
 rcases h with h|⟨b,off,ha,hb,hc⟩
 ·rw [h] at c0;simp at c0
 ·exact⟨b,off,ha,hb,hc _ _ c0,hc _ _ c1,hc _ _ c2⟩
theorem isNaN_any (s:ByteArray) (w:World):Calls Tryz.prog 129 #[.string s] w fun e w'=>e=.returned (.bool false)∧w'=w:=by
 have h:(s.toList==s.toList)=true:=by simp
 go_enter Tryz.func129,Tryz.ntmps129
 go_wp2
 go_ret
 exact⟨by simp,rfl⟩
def cmpI (a b:ByteArray):Int:=if lt a b then -1 else if lt b a then 1 else 0
theorem ret_int {k:IntKind} {a b:Int} (h:a=b):Ending.returned (.int k a)=.returned (.int k b):=by rw [h]
theorem compare_any (a b:ByteArray) (w:World):Calls Tryz.prog 103 #[.string a,.string b] w fun e w'=>e=.returned (.int .i64 (cmpI a b))∧w'=w:=by
 cases h1:Op.bytesLess a.toList b.toList
 ·by_cases h2:a=b
  ·have h3:(a.toList==b.toList)=true:=list_same h2
   have HC:Hid (cmpI a b=0):=by show _=_;subst h2;simp [cmpI,lt_irrefl]
   clear h2
   go_enter Tryz.func103,Tryz.ntmps103
   go_wp2_with (go_at_call 129;refine(isNaN_any _ _).mono ?_;rintro e w' ⟨rfl,hw⟩;subst w')
   go_ret
   exact⟨ret_int HC.out.symm,rfl⟩
  ·have h3:(a.toList==b.toList)=false:=list_ne h2
   have h4:lt b a=true:=by
    cases h:lt b a
    ·exact absurd (lt_total h1 h) h2
    ·rfl
   have HC:Hid (cmpI a b=1):=by show _=_;unfold cmpI;rw [show lt a b=false from h1,h4];rfl
   go_enter Tryz.func103,Tryz.ntmps103
   go_wp2_with (go_at_call 129;refine(isNaN_any _ _).mono ?_;rintro e w' ⟨rfl,hw⟩;subst w')
   go_ret
   exact⟨ret_int HC.out.symm,rfl⟩
 ·have HC:Hid (cmpI a b = -1):=by show _=_;simp [cmpI,lt,h1]
  go_enter Tryz.func103,Tryz.ntmps103
  go_wp2_with (go_at_call 129;refine(isNaN_any _ _).mono ?_;rintro e w' ⟨rfl,hw⟩;subst w')
  go_ret
  exact⟨ret_int HC.out.symm,rfl⟩
theorem search1_any (c:Ch) (k:ByteArray) (w:World):Calls Tryz.prog 102 #[.agg #[.string c.key,.string c.val,.bool c.gone],.string k] w fun e w'=>e=.returned (.int .i64 (cmpI c.key k))∧Below w.heap.size w w':=by
 have hb:Below w.heap.size w (w.alloc (.cells #[.string c.key,.string c.val,.bool c.gone] 106)):=(Below.refl _ _).alloc (jU _) _
 go_enter Tryz.func102,Tryz.ntmps102
 go_wp2_with (go_at_call 103;refine(compare_any _ _ _).mono ?_;rintro e w' ⟨rfl,hw⟩;subst w')
 go_ret
 exact⟨rfl,hb⟩
theorem cmpI_neg {a b:ByteArray}:(cmpI a b<0)↔lt a b=true:=by
 unfold cmpI
 split
 ·simp_all
 ·split<;>simp_all
theorem cmpI_zero {a b:ByteArray} (h:lt a b=false):(cmpI a b==0) = !lt b a:=by
 unfold cmpI
 rw [h]
 cases lt b a<;>rfl
theorem ret_ib {a a':Nat} {b b':Bool} (h1:a=a') (h2:b=b'):Ending.returned (.tuple #[.int .i64 a,.bool b])=.returned (.tuple #[.int .i64 a',.bool b']):=by rw [h1,h2]
theorem bsearch_any (ca:Option Addr) (cc:Nat) (cs:List Ch) (k:ByteArray) (S:Bl) (w:World) (hR:RowOn w S ca (cs.flatMap Ch.cells)) (hS:∀ b,S b→b<w.heap.size) (hr:Rise cs) (hn:cs.length≤1000000) (hc:cs.length≤cc) :
  Calls Tryz.prog 101 #[.slice ca cs.length cc,.string k,.func (.func 102) #[] #[]] w fun e w'=>e=.returned (.tuple #[.int .i64 (srch cs k),.bool (fnd cs k)])∧Below w.heap.size w w':=by
 go_enter Tryz.func101,Tryz.ntmps101
 go_wp2
 go_loopw [9,10] (fun a b wr=>∃ i j:Nat,a=.int .i64 i∧b=.int .i64 j∧i≤j∧j≤cs.length∧Below w.heap.size w wr∧Hid ((∀ m (h:m<cs.length),m<i→lt cs[m].key k=true)∧(∀ m (h:m<cs.length),j≤m→lt cs[m].key k=false))) (fun a b _=>(intOf b-intOf a).toNat)
 case atStart=>exact⟨0,cs.length,rfl,rfl,Nat.zero_le _,jU _,Below.refl _ _,fun m h h'=>by omega,fun m h h'=>by omega⟩
 case round =>
  obtain⟨i,j,rfl,rfl,hij,hjn,hb,HI⟩:=hrel
  by_cases hlt:i<j
  ·have hmi:i≤(i+j) / 2:=by omega
   have hmj:(i+j) / 2<j:=by omega
   have hmn:(i+j) / 2<cs.length:=by omega
   obtain⟨rb,ro,hca,hrb,k0,k1,k2⟩:=(hR.on (vV hb hS)).ch hmn
   subst hca
   obtain⟨c,hcc⟩:∃ c,cs[(i+j) / 2]=c:=⟨_,rfl⟩
   rw [hcc] at k0 k1 k2
   have hlti:(i:Int)<(j:Int):=by omega
   have hC:=search1_any c k wr
   have hdiv:((i:Int)+(j:Int)) / 2=(((i+j) / 2:Nat):Int):=by omega
   have HD:Hid (((i:Int)+(j:Int)) / 2=(((i+j) / 2:Nat):Int)):=hdiv
   have HC:Hid (cs[(i+j) / 2]=c):=hcc
   clear hdiv hcc hR
   cases hl:lt c.key k
   ·have hneg:¬ cmpI c.key k<0:=by rw [cmpI_neg,hl];simp
    go_wp2_with (go_at_call 102;refine hC.mono ?_;rintro e w2 ⟨rfl,hb2⟩)
    go_roundw
    case rel =>
     refine⟨i,(i+j) / 2,rfl,by rw [HD.out],hmi,by omega,hb.trans (hb2.mono hb.size),HI.out.1,fun m h hm=>?_⟩
     by_cases he:m=(i+j) / 2
     ·subst he;rw [HC.out];exact hl
     ·have hp:=List.pairwise_iff_getElem.1 hr ((i+j) / 2) m hmn h (by omega)
      rw [HC.out] at hp
      cases hx:lt cs[m].key k
      ·rfl
      ·have:=lt_trans hp hx;rw [hl] at this;cases this
    case measure=>simp [intOf];omega
   ·have hneg:cmpI c.key k<0:=cmpI_neg.2 hl
    go_wp2_with (go_at_call 102;refine hC.mono ?_;rintro e w2 ⟨rfl,hb2⟩)
    go_roundw
    case rel =>
     refine⟨(i+j) / 2+1,j,by rw [HD.out];rfl,rfl,by omega,hjn,hb.trans (hb2.mono hb.size),fun m h hm=>?_,HI.out.2⟩
     by_cases he:m=(i+j) / 2
     ·subst he;rw [HC.out];exact hl
     ·have hp:=List.pairwise_iff_getElem.1 hr m ((i+j) / 2) h hmn (by omega)
      rw [HC.out] at hp
      exact lt_trans hp hl
    case measure=>simp [intOf];omega
  ·obtain rfl:i=j:=by omega
   have HS:Hid (srch cs k=i):=srch_eq hr hjn HI.out.1 HI.out.2
   by_cases hin:i<cs.length
   ·obtain⟨rb,ro,hca,hrb,k0,k1,k2⟩:=(hR.on (vV hb hS)).ch hin
    subst hca
    have hl:lt cs[i].key k=false:=HI.out.2 i hin (jU _)
    have HF:Hid (fnd cs k = !lt k cs[i].key):=by show _=_;unfold fnd;rw [HS.out];simp [hin]
    have hini:(i:Int)<(cs.length:Int):=by omega
    have hC:=search1_any cs[i] k wr
    have hz:=cmpI_zero hl
    clear hR
    go_wp2_with (go_at_call 102;refine hC.mono ?_;rintro e w2 ⟨rfl,hb2⟩)
    go_ret2
    exact⟨ret_ib HS.out.symm HF.out.symm,hb.trans (hb2.mono hb.size)⟩
   ·have HF:Hid (fnd cs k=false):=by show _=_;unfold fnd;rw [HS.out,List.getElem?_eq_none (by omega)]
    have hini:¬ (i:Int)<(cs.length:Int):=by omega
    clear hR
    go_wp2
    go_ret2
    exact⟨ret_ib HS.out.symm HF.out.symm,hb⟩
theorem search_any (ca:Option Addr) (cc:Nat) (cs:List Ch) (k:ByteArray) (S:Bl) (w:World) (hR:RowOn w S ca (cs.flatMap Ch.cells)) (hS:∀ b,S b→b<w.heap.size) (hr:Rise cs) (hn:cs.length≤1000000) (hc:cs.length≤cc) :
  Calls Tryz.prog 72 #[.slice ca cs.length cc,.string k] w fun e w'=>e=.returned (.tuple #[.int .i64 (srch cs k),.bool (fnd cs k)])∧Below w.heap.size w w':=by
 have hB:=bsearch_any ca cc cs k S w hR hS hr hn hc
 go_enter Tryz.func72,Tryz.ntmps72
 go_wp2_with (go_at_call 101;refine hB.mono ?_;rintro e w2 ⟨rfl,hb2⟩)
 go_ret2
 exact⟨rfl,hb2⟩
end Go.Proofs.YtfnhmpcpeahfkaaGreat.Tree
