/-
  Joined: Search, Search2, PTorn, Crash0.
-/
import Derived.Test.YtfnhmpcpeahfkaaGreatU22
set_option linter.unusedSimpArgs false
set_option linter.unusedVariables false
set_option maxRecDepth 100000
set_option maxHeartbeats 8000000
namespace Go.Proofs.YtfnhmpcpeahfkaaGreat.Tree
open Go.RowKit Pages
structure Ch where
 key:ByteArray
 val:ByteArray
 gone:Bool
def Ch.cells (c:Ch):List Value:=[.string c.key,.string c.val,.bool c.gone]
def cI (cs:List Ch):Prop:=cs.Pairwise (fun a b=>lt a.key b.key=true)
def cL:List Ch→ByteArray→Nat
 | [],_=>0
 | c :: cs,k=>if lt c.key k=true then cL cs k+1 else 0
def fnd (cs:List Ch) (k:ByteArray):Bool:=match cs[cL cs k]? with|some c=>!lt k c.key|none=>false
theorem oO:∀ (cs:List Ch) (k:ByteArray),cL cs k≤cs.length
 | [],_=>Nat.le_refl _
 | c :: cs,k=>by
  have:=oO cs k
  simp only [cL,List.length_cons]
  split<;>omega
theorem rC:∀ {cs:List Ch} {k:ByteArray} {i:Nat},i<cL cs k→∃ h:i<cs.length,lt cs[i].key k=true
 | [],_,i,hi=>by simp [cL] at hi
 | c :: cs,k,i,hi=>by
  simp only [cL] at hi
  split at hi
  ·rename_i hc
   cases i with
   | zero=>exact⟨by simp,hc⟩
   | succ i =>
    obtain⟨h,h'⟩:=rC (cs:=cs) (k:=k) (i:=i) (by omega)
    exact⟨by simpa using h,h'⟩
  ·omega
theorem oP:∀ {cs:List Ch} {k:ByteArray},cI cs→∀ {i:Nat},cL cs k≤i→∀ (hl:i<cs.length),lt cs[i].key k=false
 | [],_,_,i,_,hl=>by simp at hl
 | c :: cs,k,hr,i,hi,hl=>by
  obtain⟨h1,h2⟩:=List.pairwise_cons.1 hr
  simp only [cL] at hi
  split at hi
  ·cases i with
   | zero=>omega
   | succ i=>exact oP h2 (by omega) (by simpa using hl)
  ·rename_i hc
   have hc':lt c.key k=false:=by simpa using hc
   cases i with
   | zero=>exact hc'
   | succ i =>
    have hm:=h1 (cs[i]'(by simpa using hl)) (List.getElem_mem _)
    cases hx:lt (cs[i]'(by simpa using hl)).key k
    ·exact hx
    ·have:=fR hm hx;rw [hc'] at this;cases this
theorem qYl {cs:List Ch} {k:ByteArray} (hr:cI cs) {i:Nat} (hi:i≤cs.length) (h1:∀ j (h:j<cs.length),j<i→lt cs[j].key k=true) (h2:∀ j (h:j<cs.length),i≤j→lt cs[j].key k=false):cL cs k=i:=by
 have hl:=oO cs k
 by_cases h:cL cs k<i
 ·have a:=h1 (cL cs k) (by omega) h
  have b:=oP hr (Nat.le_refl _) (by omega:cL cs k<cs.length)
  rw [a] at b;cases b
 ·by_cases h':i<cL cs k
  ·obtain⟨hh,a⟩:=rC h'
   have b:=h2 i hh (Nat.le_refl _)
   rw [a] at b;cases b
  ·omega
theorem qLr {l:List Ch} {j:Nat} (hj:j<l.length):(l.flatMap Ch.cells)[j * 3]?=some (.string (l[j]).key)∧(l.flatMap Ch.cells)[j * 3+1]?=some (.string (l[j]).val)∧(l.flatMap Ch.cells)[j * 3+2]?=some (.bool (l[j]).gone):=by
 induction l generalizing j with
 | nil=>simp at hj
 | cons x l ih =>
  cases j with
  | zero=>simp [Ch.cells]
  | succ j =>
   have:=ih (j:=j) (by simpa using hj)
   have e0:(j+1) * 3=j * 3+3:=by omega
   have e1:(j+1) * 3+1=j * 3+1+3:=by omega
   have e2:(j+1) * 3+2=j * 3+2+3:=by omega
   rw [e1,e2,e0]
   simpa [Ch.cells] using this
theorem aL.ch {w:World} {S:Bl} {a:Option Addr} {l:List Ch} {j:Nat} (h:aL w S a (l.flatMap Ch.cells)) (hj:j<l.length):∃ b off,a=some ⟨b,off,none⟩∧S b∧w.cell? ⟨b,off+j * 3,none⟩=some (.string (l[j]).key)∧w.cell? ⟨b,off+j * 3+1,none⟩=some (.string (l[j]).val)∧w.cell? ⟨b,off+j * 3+2,none⟩=some (.bool (l[j]).gone):=by
 obtain⟨c0,c1,c2⟩:=qLr hj
 rcases h with h|⟨b,off,ha,hb,hc⟩
 ·rw [h] at c0;simp at c0
 ·exact⟨b,off,ha,hb,hc _ _ c0,hc _ _ c1,hc _ _ c2⟩
theorem wB (s:ByteArray) (w:World):Calls Tryz.prog 129 #[.string s] w fun e w'=>e=.returned (.bool false)∧w'=w:=by
 have h:(s.toList==s.toList)=true:=by simp
 go_enter Tryz.func129,Tryz.ntmps129
 go_wp2
 go_ret
 exact⟨by simp,rfl⟩
def vD (a b:ByteArray):Int:=if lt a b then -1 else if lt b a then 1 else 0
theorem uD {k:IntKind} {a b:Int} (h:a=b):Ending.returned (.int k a)=.returned (.int k b):=by rw [h]
theorem qLm (a b:ByteArray) (w:World):Calls Tryz.prog 103 #[.string a,.string b] w fun e w'=>e=.returned (.int .i64 (vD a b))∧w'=w:=by
 cases h1:Op.bytesLess a.toList b.toList
 ·by_cases h2:a=b
  ·have h3:(a.toList==b.toList)=true:=qEt h2
   have HC:Hid (vD a b=0):=by show _=_;subst h2;simp [vD,bZ]
   clear h2
   go_enter Tryz.func103,Tryz.ntmps103
   go_wp2_with (go_at_call 129;refine(wB _ _).mono ?_;rintro e w' ⟨rfl,hw⟩;subst w')
   go_ret
   exact⟨uD HC.out.symm,rfl⟩
  ·have h3:(a.toList==b.toList)=false:=uP h2
   have h4:lt b a=true:=by
    cases h:lt b a
    ·exact absurd (lV h1 h) h2
    ·rfl
   have HC:Hid (vD a b=1):=by show _=_;unfold vD;rw [show lt a b=false from h1,h4];rfl
   go_enter Tryz.func103,Tryz.ntmps103
   go_wp2_with (go_at_call 129;refine(wB _ _).mono ?_;rintro e w' ⟨rfl,hw⟩;subst w')
   go_ret
   exact⟨uD HC.out.symm,rfl⟩
 ·have HC:Hid (vD a b = -1):=by show _=_;simp [vD,lt,h1]
  go_enter Tryz.func103,Tryz.ntmps103
  go_wp2_with (go_at_call 129;refine(wB _ _).mono ?_;rintro e w' ⟨rfl,hw⟩;subst w')
  go_ret
  exact⟨uD HC.out.symm,rfl⟩
theorem wW (c:Ch) (k:ByteArray) (w:World):Calls Tryz.prog 102 #[.agg #[.string c.key,.string c.val,.bool c.gone],.string k] w fun e w'=>e=.returned (.int .i64 (vD c.key k))∧Below w.heap.size w w':=by
 have hb:Below w.heap.size w (w.alloc (.cells #[.string c.key,.string c.val,.bool c.gone] 106)):=(Below.refl _ _).alloc (Nat.le_refl _) _
 go_enter Tryz.func102,Tryz.ntmps102
 go_wp2_with (go_at_call 103;refine(qLm _ _ _).mono ?_;rintro e w' ⟨rfl,hw⟩;subst w')
 go_ret
 exact⟨rfl,hb⟩
theorem qLo {a b:ByteArray}:(vD a b<0)↔lt a b=true:=by
 unfold vD
 split
 ·simp_all
 ·split<;>simp_all
theorem qTv {a b:ByteArray} (h:lt a b=false):(vD a b==0) = !lt b a:=by
 unfold vD
 rw [h]
 cases lt b a<;>rfl
theorem qVd {a a':Nat} {b b':Bool} (h1:a=a') (h2:b=b'):Ending.returned (.tuple #[.int .i64 a,.bool b])=.returned (.tuple #[.int .i64 a',.bool b']):=by rw [h1,h2]
theorem qLu (ca:Option Addr) (cc:Nat) (cs:List Ch) (k:ByteArray) (S:Bl) (w:World) (hR:aL w S ca (cs.flatMap Ch.cells)) (hS:∀ b,S b→b<w.heap.size) (hr:cI cs) (hn:cs.length≤1000000) (hc:cs.length≤cc) :
  Calls Tryz.prog 101 #[.slice ca cs.length cc,.string k,.func (.func 102) #[] #[]] w fun e w'=>e=.returned (.tuple #[.int .i64 (cL cs k),.bool (fnd cs k)])∧Below w.heap.size w w':=by
 go_enter Tryz.func101,Tryz.ntmps101
 go_wp2
 go_loopw [9,10] (fun a b wr=>∃ i j:Nat,a=.int .i64 i∧b=.int .i64 j∧i≤j∧j≤cs.length∧Below w.heap.size w wr∧Hid ((∀ m (h:m<cs.length),m<i→lt cs[m].key k=true)∧(∀ m (h:m<cs.length),j≤m→lt cs[m].key k=false))) (fun a b _=>(intOf b-intOf a).toNat)
 case atStart=>exact⟨0,cs.length,rfl,rfl,Nat.zero_le _,Nat.le_refl _,Below.refl _ _,fun m h h'=>by omega,fun m h h'=>by omega⟩
 case round =>
  obtain⟨i,j,rfl,rfl,hij,hjn,hb,HI⟩:=hrel
  by_cases hlt:i<j
  ·have hmi:i≤(i+j) / 2:=by omega
   have hmj:(i+j) / 2<j:=by omega
   have hmn:(i+j) / 2<cs.length:=by omega
   obtain⟨rb,ro,hca,hrb,k0,k1,k2⟩:=(hR.on (On.of_below hb hS)).ch hmn
   subst hca
   obtain⟨c,hcc⟩:=nM (cs[(i+j) / 2])
   rw [hcc] at k0 k1 k2
   have hlti:(i:Int)<(j:Int):=by omega
   have hC:=wW c k wr
   have hdiv:((i:Int)+(j:Int)) / 2=(((i+j) / 2:Nat):Int):=by omega
   have HD:Hid (((i:Int)+(j:Int)) / 2=(((i+j) / 2:Nat):Int)):=hdiv
   have HC:Hid (cs[(i+j) / 2]=c):=hcc
   clear hdiv hcc hR
   cases hl:lt c.key k
   ·have hneg:¬ vD c.key k<0:=by rw [qLo,hl];simp
    go_wp2_with (go_at_call 102;refine hC.mono ?_;rintro e w2 ⟨rfl,hb2⟩)
    go_roundw
    case rel =>
     refine⟨i,(i+j) / 2,rfl,by rw [HD.out],hmi,by omega,hb.trans (hb2.mono hb.size),HI.out.1,fun m h hm=>?_⟩
     by_cases he:m=(i+j) / 2
     ·subst he;rw [HC.out];exact hl
     ·have hp:=List.pairwise_iff_getElem.1 hr ((i+j) / 2) m hmn h (by omega)
      rw [HC.out] at hp
      cases hx:lt cs[m].key k
      ·rfl
      ·have:=fR hp hx;rw [hl] at this;cases this
    case measure=>simp [intOf];omega
   ·have hneg:vD c.key k<0:=qLo.2 hl
    go_wp2_with (go_at_call 102;refine hC.mono ?_;rintro e w2 ⟨rfl,hb2⟩)
    go_roundw
    case rel =>
     refine⟨(i+j) / 2+1,j,by rw [HD.out];rfl,rfl,by omega,hjn,hb.trans (hb2.mono hb.size),fun m h hm=>?_,HI.out.2⟩
     by_cases he:m=(i+j) / 2
     ·subst he;rw [HC.out];exact hl
     ·have hp:=List.pairwise_iff_getElem.1 hr m ((i+j) / 2) h hmn (by omega)
      rw [HC.out] at hp
      exact fR hp hl
    case measure=>simp [intOf];omega
  ·obtain rfl:i=j:=by omega
   have HS:Hid (cL cs k=i):=qYl hr hjn HI.out.1 HI.out.2
   by_cases hin:i<cs.length
   ·obtain⟨rb,ro,hca,hrb,k0,k1,k2⟩:=(hR.on (On.of_below hb hS)).ch hin
    subst hca
    have hl:lt cs[i].key k=false:=HI.out.2 i hin (Nat.le_refl _)
    have HF:Hid (fnd cs k = !lt k cs[i].key):=by show _=_;unfold fnd;rw [HS.out];simp [hin]
    have hini:(i:Int)<(cs.length:Int):=by omega
    have hC:=wW cs[i] k wr
    have hz:=qTv hl
    clear hR
    go_wp2_with (go_at_call 102;refine hC.mono ?_;rintro e w2 ⟨rfl,hb2⟩)
    go_ret2
    exact⟨qVd HS.out.symm HF.out.symm,hb.trans (hb2.mono hb.size)⟩
   ·have HF:Hid (fnd cs k=false):=by show _=_;unfold fnd;rw [HS.out,List.getElem?_eq_none (by omega)]
    have hini:¬ (i:Int)<(cs.length:Int):=by omega
    clear hR
    go_wp2
    go_ret2
    exact⟨qVd HS.out.symm HF.out.symm,hb⟩
theorem lL (ca:Option Addr) (cc:Nat) (cs:List Ch) (k:ByteArray) (S:Bl) (w:World) (hR:aL w S ca (cs.flatMap Ch.cells)) (hS:∀ b,S b→b<w.heap.size) (hr:cI cs) (hn:cs.length≤1000000) (hc:cs.length≤cc) :
  Calls Tryz.prog 72 #[.slice ca cs.length cc,.string k] w fun e w'=>e=.returned (.tuple #[.int .i64 (cL cs k),.bool (fnd cs k)])∧Below w.heap.size w w':=by
 have hB:=qLu ca cc cs k S w hR hS hr hn hc
 go_enter Tryz.func72,Tryz.ntmps72
 go_wp2_with (go_at_call 101;refine hB.mono ?_;rintro e w2 ⟨rfl,hb2⟩)
 go_ret2
 exact⟨rfl,hb2⟩
end Go.Proofs.YtfnhmpcpeahfkaaGreat.Tree
