/-
  Joined: Search, Search2, PTorn, Crash0, Die.
-/
import Derived.Test.YtngpplmndpmgiaaGreatT18
import Derived.Test.YtngpplmndpmgiaaGreatT22
import Derived.Laws.BitsAllLaws
set_option linter.unusedSimpArgs false
set_option linter.unusedVariables false
set_option maxRecDepth 100000
set_option maxHeartbeats 8000000
namespace Go.Proofs.YtngpplmndpmgiaaGreat.Tree
open Go.RowKit Go.Proofs.YtngpplmndpmgiaaGreat.Pages
structure Ch where
 key:ByteArray
 val:ByteArray
 gone:Bool
def Ch.cells (c:Ch):List Value:=[.string c.key,.string c.val,.bool c.gone]
def Rise (cs:List Ch):Prop:=cs.Pairwise (fun a b=>lt a.key b.key=true)
def srch:List Ch→ByteArray→Nat
 | [],_=>0
 | c :: cs,k=>if lt c.key k=true then srch cs k+1 else 0
def fnd (cs:List Ch) (k:ByteArray):Bool:=match cs[srch cs k]? with|some c=>!lt k c.key|none=>false
theorem srch_le:∀ (cs:List Ch) (k:ByteArray),srch cs k≤cs.length
 | [],_=>jU _
 | c :: cs,k=>by
  have:=srch_le cs k
  simp only [srch,List.length_cons]
  split<;>omega
theorem srch_lt:∀ {cs:List Ch} {k:ByteArray} {i:Nat},i<srch cs k→∃ h:i<cs.length,lt cs[i].key k=true
 | [],_,i,hi=>by simp [srch] at hi
 | c :: cs,k,i,hi=>by
  simp only [srch] at hi
  split at hi
  ·rename_i hc
   cases i with
   | zero=>exact⟨by simp,hc⟩
   | succ i =>
    obtain⟨h,h'⟩:=srch_lt (cs:=cs) (k:=k) (i:=i) (by omega)
    exact⟨by simpa using h,h'⟩
  ·omega
theorem srch_ge:∀ {cs:List Ch} {k:ByteArray},Rise cs→∀ {i:Nat},srch cs k≤i→∀ (hl:i<cs.length),lt cs[i].key k=false
 | [],_,_,i,_,hl=>by simp at hl
 | c :: cs,k,hr,i,hi,hl=>by
  obtain⟨h1,h2⟩:=List.pairwise_cons.1 hr
  simp only [srch] at hi
  split at hi
  ·cases i with
   | zero=>omega
   | succ i=>exact srch_ge h2 (by omega) (by simpa using hl)
  ·rename_i hc
   have hc':lt c.key k=false:=by simpa using hc
   cases i with
   | zero=>exact hc'
   | succ i =>
    have hm:=h1 (cs[i]'(by simpa using hl)) (List.getElem_mem _)
    cases hx:lt (cs[i]'(by simpa using hl)).key k
    ·exact hx
    ·have:=lt_trans hm hx;rw [hc'] at this;cases this
theorem srch_eq {cs:List Ch} {k:ByteArray} (hr:Rise cs) {i:Nat} (hi:i≤cs.length) (h1:∀ j (h:j<cs.length),j<i→lt cs[j].key k=true) (h2:∀ j (h:j<cs.length),i≤j→lt cs[j].key k=false):srch cs k=i:=by
 have hl:=srch_le cs k
 by_cases h:srch cs k<i
 ·have a:=h1 (srch cs k) (by omega) h
  have b:=srch_ge hr (jU _) (by omega:srch cs k<cs.length)
  rw [a] at b;cases b
 ·by_cases h':i<srch cs k
  ·obtain⟨hh,a⟩:=srch_lt h'
   have b:=h2 i hh (jU _)
   rw [a] at b;cases b
  ·omega
theorem ch_cells_at {l:List Ch} {j:Nat} (hj:j<l.length):(l.flatMap Ch.cells)[j * 3]?=some (.string (l[j]).key)∧(l.flatMap Ch.cells)[j * 3+1]?=some (.string (l[j]).val)∧(l.flatMap Ch.cells)[j * 3+2]?=some (.bool (l[j]).gone):=by
 induction l generalizing j with
 | nil=>simp at hj
 | cons x l ih =>
  cases j with
  | zero=>simp [Ch.cells]
  | succ j =>
   have:=ih (j:=j) (by simpa using hj)
   have e0:(j+1) * 3=j * 3+3:=by omega
   have e1:(j+1) * 3+1=j * 3+1+3:=by omega
   have e2:(j+1) * 3+2=j * 3+2+3:=by omega
   rw [e1,e2,e0]
   simpa [Ch.cells] using this
theorem RowOn.ch {w:World} {S:Bl} {a:Option Addr} {l:List Ch} {j:Nat} (h:RowOn w S a (l.flatMap Ch.cells)) (hj:j<l.length):∃ b off,a=some ⟨b,off,none⟩∧S b∧w.cell? ⟨b,off+j * 3,none⟩=some (.string (l[j]).key)∧w.cell? ⟨b,off+j * 3+1,none⟩=some (.string (l[j]).val)∧w.cell? ⟨b,off+j * 3+2,none⟩=some (.bool (l[j]).gone):=by
 obtain⟨c0,c1,c2⟩:=ch_cells_at hj
 rcases h with h|⟨b,off,ha,hb,hc⟩
 ·rw [h] at c0;simp at c0
 ·exact⟨b,off,ha,hb,hc _ _ c0,hc _ _ c1,hc _ _ c2⟩
theorem isNaN_any (s:ByteArray) (w:World):Calls Tryz.prog 123 #[.string s] w fun e w'=>e=.returned (.bool false)∧w'=w:=by
 have h:(s.toList==s.toList)=true:=by simp
 go_enter Tryz.func123,Tryz.ntmps123
 go_wp2
 go_ret
 exact⟨by simp,rfl⟩
def cmpI (a b:ByteArray):Int:=if lt a b then -1 else if lt b a then 1 else 0
theorem ret_int {k:IntKind} {a b:Int} (h:a=b):Ending.returned (.int k a)=.returned (.int k b):=by rw [h]
theorem compare_any (a b:ByteArray) (w:World):Calls Tryz.prog 97 #[.string a,.string b] w fun e w'=>e=.returned (.int .i64 (cmpI a b))∧w'=w:=by
 cases h1:Op.bytesLess a.toList b.toList
 ·by_cases h2:a=b
  ·have h3:(a.toList==b.toList)=true:=list_same h2
   have HC:Hid (cmpI a b=0):=by show _=_;subst h2;simp [cmpI,lt_irrefl]
   clear h2
   go_enter Tryz.func97,Tryz.ntmps97
   go_wp2_with (go_at_call 123;refine(isNaN_any _ _).mono ?_;rintro e w' ⟨rfl,hw⟩;subst w')
   go_ret
   exact⟨ret_int HC.out.symm,rfl⟩
  ·have h3:(a.toList==b.toList)=false:=list_ne h2
   have h4:lt b a=true:=by
    cases h:lt b a
    ·exact absurd (lt_total h1 h) h2
    ·rfl
   have HC:Hid (cmpI a b=1):=by show _=_;unfold cmpI;rw [show lt a b=false from h1,h4];rfl
   go_enter Tryz.func97,Tryz.ntmps97
   go_wp2_with (go_at_call 123;refine(isNaN_any _ _).mono ?_;rintro e w' ⟨rfl,hw⟩;subst w')
   go_ret
   exact⟨ret_int HC.out.symm,rfl⟩
 ·have HC:Hid (cmpI a b = -1):=by show _=_;simp [cmpI,lt,h1]
  go_enter Tryz.func97,Tryz.ntmps97
  go_wp2_with (go_at_call 123;refine(isNaN_any _ _).mono ?_;rintro e w' ⟨rfl,hw⟩;subst w')
  go_ret
  exact⟨ret_int HC.out.symm,rfl⟩
theorem search1_any (c:Ch) (k:ByteArray) (w:World):Calls Tryz.prog 96 #[.agg #[.string c.key,.string c.val,.bool c.gone],.string k] w fun e w'=>e=.returned (.int .i64 (cmpI c.key k))∧Below w.heap.size w w':=by
 have hb:Below w.heap.size w (w.alloc (.cells #[.string c.key,.string c.val,.bool c.gone] 100)):=(Below.refl _ _).alloc (jU _) _
 go_enter Tryz.func96,Tryz.ntmps96
 go_wp2_with (go_at_call 97;refine(compare_any _ _ _).mono ?_;rintro e w' ⟨rfl,hw⟩;subst w')
 go_ret
 exact⟨rfl,hb⟩
theorem cmpI_neg {a b:ByteArray}:(cmpI a b<0)↔lt a b=true:=by
 unfold cmpI
 split
 ·simp_all
 ·split<;>simp_all
theorem cmpI_zero {a b:ByteArray} (h:lt a b=false):(cmpI a b==0) = !lt b a:=by
 unfold cmpI
 rw [h]
 cases lt b a<;>rfl
theorem ret_ib {a a':Nat} {b b':Bool} (h1:a=a') (h2:b=b'):Ending.returned (.tuple #[.int .i64 a,.bool b])=.returned (.tuple #[.int .i64 a',.bool b']):=by rw [h1,h2]
theorem bsearch_any (ca:Option Addr) (cc:Nat) (cs:List Ch) (k:ByteArray) (S:Bl) (w:World) (hR:RowOn w S ca (cs.flatMap Ch.cells)) (hS:∀ b,S b→b<w.heap.size) (hr:Rise cs) (hn:cs.length≤1000000) (hc:cs.length≤cc) :
  Calls Tryz.prog 95 #[.slice ca cs.length cc,.string k,.func (.func 96) #[] #[]] w fun e w'=>e=.returned (.tuple #[.int .i64 (srch cs k),.bool (fnd cs k)])∧Below w.heap.size w w':=by
 go_enter Tryz.func95,Tryz.ntmps95
 go_wp2
 go_loopw [9,10] (fun a b wr=>∃ i j:Nat,a=.int .i64 i∧b=.int .i64 j∧i≤j∧j≤cs.length∧Below w.heap.size w wr∧Hid ((∀ m (h:m<cs.length),m<i→lt cs[m].key k=true)∧(∀ m (h:m<cs.length),j≤m→lt cs[m].key k=false))) (fun a b _=>(intOf b-intOf a).toNat)
 case atStart=>exact⟨0,cs.length,rfl,rfl,Nat.zero_le _,jU _,Below.refl _ _,fun m h h'=>by omega,fun m h h'=>by omega⟩
 case round =>
  obtain⟨i,j,rfl,rfl,hij,hjn,hb,HI⟩:=hrel
  by_cases hlt:i<j
  ·have hmi:i≤(i+j) / 2:=by omega
   have hmj:(i+j) / 2<j:=by omega
   have hmn:(i+j) / 2<cs.length:=by omega
   obtain⟨rb,ro,hca,hrb,k0,k1,k2⟩:=(hR.on (vV hb hS)).ch hmn
   subst hca
   obtain⟨c,hcc⟩:∃ c,cs[(i+j) / 2]=c:=⟨_,rfl⟩
   rw [hcc] at k0 k1 k2
   have hlti:(i:Int)<(j:Int):=by omega
   have hC:=search1_any c k wr
   have hdiv:((i:Int)+(j:Int)) / 2=(((i+j) / 2:Nat):Int):=by omega
   have HD:Hid (((i:Int)+(j:Int)) / 2=(((i+j) / 2:Nat):Int)):=hdiv
   have HC:Hid (cs[(i+j) / 2]=c):=hcc
   clear hdiv hcc hR
   cases hl:lt c.key k
   ·have hneg:¬ cmpI c.key k<0:=by rw [cmpI_neg,hl];simp
    go_wp2_with (go_at_call 96;refine hC.mono ?_;rintro e w2 ⟨rfl,hb2⟩)
    go_roundw
    case rel =>
     refine⟨i,(i+j) / 2,rfl,by rw [HD.out],hmi,by omega,hb.trans (hb2.mono hb.size),HI.out.1,fun m h hm=>?_⟩
     by_cases he:m=(i+j) / 2
     ·subst he;rw [HC.out];exact hl
     ·have hp:=List.pairwise_iff_getElem.1 hr ((i+j) / 2) m hmn h (by omega)
      rw [HC.out] at hp
      cases hx:lt cs[m].key k
      ·rfl
      ·have:=lt_trans hp hx;rw [hl] at this;cases this
    case measure=>simp [intOf];omega
   ·have hneg:cmpI c.key k<0:=cmpI_neg.2 hl
    go_wp2_with (go_at_call 96;refine hC.mono ?_;rintro e w2 ⟨rfl,hb2⟩)
    go_roundw
    case rel =>
     refine⟨(i+j) / 2+1,j,by rw [HD.out];rfl,rfl,by omega,hjn,hb.trans (hb2.mono hb.size),fun m h hm=>?_,HI.out.2⟩
     by_cases he:m=(i+j) / 2
     ·subst he;rw [HC.out];exact hl
     ·have hp:=List.pairwise_iff_getElem.1 hr m ((i+j) / 2) h hmn (by omega)
      rw [HC.out] at hp
      exact lt_trans hp hl
    case measure=>simp [intOf];omega
  ·obtain rfl:i=j:=by omega
   have HS:Hid (srch cs k=i):=srch_eq hr hjn HI.out.1 HI.out.2
   by_cases hin:i<cs.length
   ·obtain⟨rb,ro,hca,hrb,k0,k1,k2⟩:=(hR.on (vV hb hS)).ch hin
    subst hca
    have hl:lt cs[i].key k=false:=HI.out.2 i hin (jU _)
    have HF:Hid (fnd cs k = !lt k cs[i].key):=by show _=_;unfold fnd;rw [HS.out];simp [hin]
    have hini:(i:Int)<(cs.length:Int):=by omega
    have hC:=search1_any cs[i] k wr
    have hz:=cmpI_zero hl
    clear hR
    go_wp2_with (go_at_call 96;refine hC.mono ?_;rintro e w2 ⟨rfl,hb2⟩)
    go_ret2
    exact⟨ret_ib HS.out.symm HF.out.symm,hb.trans (hb2.mono hb.size)⟩
   ·have HF:Hid (fnd cs k=false):=by show _=_;unfold fnd;rw [HS.out,List.getElem?_eq_none (by omega)]
    have hini:¬ (i:Int)<(cs.length:Int):=by omega
    clear hR
    go_wp2
    go_ret2
    exact⟨ret_ib HS.out.symm HF.out.symm,hb⟩
theorem search_any (ca:Option Addr) (cc:Nat) (cs:List Ch) (k:ByteArray) (S:Bl) (w:World) (hR:RowOn w S ca (cs.flatMap Ch.cells)) (hS:∀ b,S b→b<w.heap.size) (hr:Rise cs) (hn:cs.length≤1000000) (hc:cs.length≤cc) :
  Calls Tryz.prog 66 #[.slice ca cs.length cc,.string k] w fun e w'=>e=.returned (.tuple #[.int .i64 (srch cs k),.bool (fnd cs k)])∧Below w.heap.size w w':=by
 have hB:=bsearch_any ca cc cs k S w hR hS hr hn hc
 go_enter Tryz.func66,Tryz.ntmps66
 go_wp2_with (go_at_call 95;refine hB.mono ?_;rintro e w2 ⟨rfl,hb2⟩)
 go_ret2
 exact⟨rfl,hb2⟩
def sect (s:ByteArray) (k:Nat):List UInt8:=(s.data.toList.drop (64 * k)).take 64
structure Crashed (safe:List ByteArray) (late:List (Nat×ByteArray)) (safe':List ByteArray):Prop where
 len:safe'.length=safe.length
 size:∀ p (h:p<safe'.length),(safe'[p]).size=256
 sect:∀ p (h:p<safe'.length) k,k<4→sect safe'[p] k=sect (safe[p]'(by omega)) k∨∃ x∈late,x.1=p∧sect safe'[p] k=sect x.2 k
theorem crashed_refl {safe:List ByteArray} {late:List (Nat×ByteArray)} (h:∀ p (h:p<safe.length),(safe[p]).size=256):Crashed safe late safe:=⟨rfl,h,fun _ _ _ _=>.inl rfl⟩
def torn (s d:ByteArray) (k:Nat):ByteArray:=⟨(s.data.toList.take (64 * k)++sect d k++s.data.toList.drop (64 * k+64)).toArray⟩
theorem size_list (s:ByteArray):s.data.toList.length=s.size:=Array.length_toList
theorem torn_size {s d:ByteArray} {k:Nat} (hs:s.size=256) (hd:d.size=256) (hk:k<4):(torn s d k).size=256:=by
 have h1:=size_list s
 have h2:=size_list d
 show (List.toArray _).size=256
 simp only [sect,List.size_toArray,jK,List.length_take,List.length_drop]
 omega
theorem torn_sect {s d:ByteArray} {k j:Nat} (hs:s.size=256) (hd:d.size=256) (hk:k<4) (hj:j<4):sect (torn s d k) j=if j=k then sect d k else sect s j:=by
 have h1:=size_list s
 have h2:=size_list d
 have hsl:(sect d k).length=64:=by simp only [sect,List.length_take,List.length_drop];omega
 have htl:(s.data.toList.take (64 * k)).length=64 * k:=by rw [List.length_take];omega
 have e:(torn s d k).data.toList=s.data.toList.take (64 * k)++sect d k++s.data.toList.drop (64 * k+64):=by simp [torn]
 conv=>lhs;unfold sect
 rw [e]
 apply List.ext_getElem?
 intro i
 by_cases hi:i<64
 ·rw [List.getElem?_take_of_lt hi,List.getElem?_drop,List.append_assoc]
  by_cases hjk:j=k
  ·subst hjk
   rw [if_pos rfl,List.getElem?_append_right (by omega),htl,List.getElem?_append_left (by omega),show 64 * j+i-64 * j=i by omega]
  ·rw [if_neg hjk]
   have hsj:(sect s j)[i]?=s.data.toList[64 * j+i]?:=by rw [sect,List.getElem?_take_of_lt hi,List.getElem?_drop]
   rw [hsj]
   rcases Nat.lt_or_ge j k with hlt|hge
   ·rw [List.getElem?_append_left (by omega),List.getElem?_take_of_lt (by omega)]
   ·rw [List.getElem?_append_right (by omega),htl,List.getElem?_append_right (by omega),hsl,List.getElem?_drop,show 64 * k+64+(64 * j+i-64 * k-64)=64 * j+i by omega]
 ·rw [List.getElem?_take,if_neg hi]
  split
  ·rw [sect,List.getElem?_take,if_neg hi]
  ·rw [sect,List.getElem?_take,if_neg hi]
theorem Crashed.step {safe:List ByteArray} {late:List (Nat×ByteArray)} {cur:List ByteArray} (h:Crashed safe late cur) {x:Nat×ByteArray} (hx:x∈late) (hd:x.2.size=256) (hp:x.1<cur.length) {k:Nat} (hk:k<4):Crashed safe late (cur.set x.1 (torn (cur[x.1]) x.2 k)):=by
 refine⟨by rw [List.length_set];exact h.len,fun p hp'=>?_,fun p hp' j hj=>?_⟩
 ·rw [List.length_set] at hp'
  rw [List.getElem_set]
  split
  ·exact torn_size (h.size _ hp) hd hk
  ·exact h.size p hp'
 ·rw [List.length_set] at hp'
  rw [List.getElem_set]
  split
  ·next e =>
   subst e
   rw [torn_sect (h.size _ hp) hd hk hj]
   split
   ·next e=>subst e;exact .inr ⟨x,hx,rfl,rfl⟩
   ·exact h.sect _ hp j hj
  ·exact h.sect p hp' j hj
theorem torn_bytes (s d:ByteArray) (k:Nat) (hs:s.size=256) (hd:d.size=256) (hk:k<4):(s.extract 0 (64 * k)++d.extract (64 * k) (64 * k+64))++s.extract (64 * k+64) 256=torn s d k:=by
 have h1:=size_list s
 have h2:=size_list d
 apply ByteArray.ext
 apply Array.ext'
 simp only [ByteArray.data_append,ByteArray.data_extract,Array.toList_append,Array.toList_extract,torn,sect,List.extract_eq_take_drop,List.toList_toArray]
 rw [List.take_of_length_le (l:=s.data.toList.drop (64 * k+64)) (by rw [List.length_drop];omega),show 64 * k+64-64 * k=64 by omega]
 simp
theorem die_any (β:Nat) (sv lv:Value) (fs:Fs) (n:Nat) (w:World) (h:FileAt w β sv lv fs) (hn:n≤9223372036854775807) :
  Calls Tryz.prog 25 #[.pointer (some ⟨β,0,none⟩),.int .i64 (n:Nat)] w fun e w'=>(∃ v,e=.returned v)∧FileAt w' β sv lv { fs with life:=(n:Nat) }∧Fr (Bl.one β) w w':=by
 have hb:=h.box
 obtain⟨c0,c1,c2,c3,c4⟩:=box5 hb
 have hfr:=free_of hb
 have b3:=set_of hb 3 (.int .i64 (n:Nat))
 have F:Fr (Bl.one β) w (w.setCell ⟨β,3,none⟩ (.int .i64 (n:Nat))):=(Fr.refl (Bl.one β) w).setCell (p:=⟨β,3,none⟩) (.inl rfl) _
 have on:∀ {e:TypeId} {z m:Nat} {v:Value} {xs:List Value},w.ownsRow 0 e z v m xs→e≠60→(w.setCell ⟨β,3,none⟩ (.int .i64 (n:Nat))).ownsRow 0 e z v m xs:=fun {e z m v xs} ho he=>own_on ho (F.on (Z:=fun k=>v.ownBlock=some k) (fun k hk=>⟨own_lt ho hk,fun e'=>by simp only [Bl.one] at e';subst e';exact own_ne ho hb he.symm hk⟩)) (fun k hk=>hk)
 have HF:Hid (FileAt (w.setCell ⟨β,3,none⟩ (.int .i64 (n:Nat))) β sv lv { fs with life:=(n:Nat) }):=⟨by simpa using b3,on h.safe (by decide),on h.late (by decide),h.small,h.few⟩
 have HFr:Hid (Fr (Bl.one β) w (w.setCell ⟨β,3,none⟩ (.int .i64 (n:Nat)))):=F
 have hmx:max (n:Int) 0=(n:Int):=by omega
 clear b3 F on h hb
 go_enter Tryz.func25,Tryz.ntmps25
 go_wp2
 go_end0
 exact⟨⟨_,rfl⟩,HF.out,HFr.out⟩
end Go.Proofs.YtngpplmndpmgiaaGreat.Tree
