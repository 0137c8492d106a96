/-
  Joined: GrowN.
-/
import Derived.Test.YtfnhmpcpeahfkaaGreatU28
set_option linter.unusedSimpArgs false
set_option linter.unusedVariables false
set_option maxRecDepth 100000
set_option maxHeartbeats 8000000
namespace Go.Proofs.YtfnhmpcpeahfkaaGreat.Tree
open Go.RowKit Pages
theorem cV {B:Nat} {W a wn:World} (hJ:Below B W a) (hW:B≤W.heap.size) (hbn:Below a.heap.size a wn):Below B W wn:=hJ.trans (hbn.mono (Nat.le_trans hW hJ.size))
theorem tV (m:MN) (es:List En) (ms:List MN) (S:Bl) (w:World) (he:m.en=es.length) (hk:m.kn=ms.length) (hec:es.length≤m.ec) (hkc:ms.length≤m.kc) (hR:aL w S m.ea (aP es)) (hN:aL w S m.ka (aQ ms)) (hS:∀ b,S b→b<w.heap.size) (hn:es.length≤1000000) (hn2:ms.length≤1000000) (hf:∀ x∈es,x.fits) (hf2:∀ x∈ms,x.fits) :
  Calls Tryz.prog 186 #[m.val] w fun e w'=>e=.returned (.bool (m.place==0&&decide (tot esz es+tot ksz ms<62)))∧Below w.heap.size w w':=by
 obtain⟨lo,hi,pl,ea,en,ec,ka,kn,kc⟩:=m
 simp only at he hk hec hkc hR hN
 subst he hk
 obtain⟨W1,hW1⟩:=nM (w.alloc (.cells #[.string lo,.string hi,.int .i64 pl,.slice ea es.length ec,.slice ka ms.length kc] 224))
 have b1:Below w.heap.size w W1:=hW1▸(Below.refl _ _).alloc (Nat.le_refl _) _
 have x1:W1.heap[w.heap.size]?=some (.cells #[.string lo,.string hi,.int .i64 pl,.slice ea es.length ec,.slice ka ms.length kc] 224):=hW1▸aB w _
 obtain⟨m0,m1,m2,m3,m4⟩:=dC x1
 have z1:=(Array.getElem?_eq_some_iff.1 x1).1
 have hte:tot esz es≤427000000:=by have:=vO esz es 427 (fun x hx=>qQ (hf x hx));omega
 have htk:tot ksz ms≤27000000:=by have:=vO ksz ms 27 (fun x hx=>qK (hf2 x hx));omega
 have hS1:∀ b,S b→b<W1.heap.size:=fun b h=>Nat.lt_of_lt_of_le (hS b h) b1.size
 have hA:∀ W,Below w.heap.size w W→Calls Tryz.prog 183 #[.slice ea es.length ec,.func (.func 174) #[] #[]] W fun e w'=>e=.returned (.int .i64 (tot esz es))∧Below W.heap.size W w':=fun W hW=>zY ea ec es S W (hR.on (On.of_below hW hS)) (fun b h=>Nat.lt_of_lt_of_le (hS b h) hW.size) hn hec hf
 have hB:∀ W,Below w.heap.size w W→Calls Tryz.prog 188 #[.slice ka ms.length kc,.func (.func 179) #[] #[]] W fun e w'=>e=.returned (.int .i64 (tot ksz ms))∧Below W.heap.size W w':=fun W hW=>zV ka kc ms S W (hN.on (On.of_below hW hS)) (fun b h=>Nat.lt_of_lt_of_le (hS b h) hW.size) hn2 hkc hf2
 obtain⟨te,hte'⟩:∃ te,tot esz es=te:=⟨_,rfl⟩
 obtain⟨tk,htk'⟩:∃ tk,tot ksz ms=tk:=⟨_,rfl⟩
 simp only [hte',htk'] at hte htk hA hB ⊢
 clear hte' htk'
 have hA':=hA
 have hB':=hB
 clear hA hB
 have hJw:∀ W,Below (w.heap.size+1) W1 W→Below w.heap.size w W:=fun W h=>b1.trans (h.mono (Nat.le_succ _))
 have hA:=fun W h=>hA' W (hJw W h)
 have hB:=fun W h=>hB' W (hJw W h)
 clear hA' hB'
 have hWz:w.heap.size+1≤W1.heap.size:=z1
 have hJ:Below (w.heap.size+1) W1 W1:=Below.refl _ _
 go_enter Tryz.func186,Tryz.ntmps186
 by_cases hp:pl=0
 ·have hpb:((pl:Int)==0)=true:=by simp [hp]
  have hpc:(pl==0)=true:=by simp [hp]
  clear hp
  by_cases hlt:te+tk<62
  ·have HW:Hid (decide (IntKind.i64.wrap ((te:Int)+(tk:Int))<62)=true):=by show _=_;rw [IntKind.wrap_i64,decide_eq_true_iff];· omega
   have HD:Hid ((pl==0&&decide (te+tk<62))=true):=by show _=_;simp [hpc,hlt]
   go_wp2
   go_region_with (first|(go_at_call 183;refine(hA _ (by first|exact hJ|exact hJ.drew|exact hJ.drew.drew)).mono ?_;rintro e wn ⟨rfl,hbn⟩;have hJ:Below (w.heap.size+1) W1 wn:=(by first|exact cV hJ hWz hbn|exact cV hJ.drew hWz hbn|exact cV hJ.drew.drew hWz hbn);obtain⟨e0,e1,e2,e3,e4⟩:=dC ((hJ.block w.heap.size (Nat.lt_succ_self _)).trans x1))|(go_at_call 188;refine(hB _ (by first|exact hJ|exact hJ.drew|exact hJ.drew.drew)).mono ?_;rintro e wn ⟨rfl,hbn⟩;have hJ:Below (w.heap.size+1) W1 wn:=(by first|exact cV hJ hWz hbn|exact cV hJ.drew hWz hbn|exact cV hJ.drew.drew hWz hbn);obtain⟨e0,e1,e2,e3,e4⟩:=dC ((hJ.block w.heap.size (Nat.lt_succ_self _)).trans x1)))
   all_goals go_wp2
   all_goals go_ret
   all_goals exact⟨by rw [HD.out];exact congrArg (fun b=>Ending.returned (Value.bool b)) HW.out,hJw _ (by first|exact hJ|exact hJ.drew|exact hJ.drew.drew)⟩
  ·have HW:Hid (decide (IntKind.i64.wrap ((te:Int)+(tk:Int))<62)=false):=by show _=_;rw [IntKind.wrap_i64,decide_eq_false_iff_not];· omega
   have HD:Hid ((pl==0&&decide (te+tk<62))=false):=by show _=_;simp [hpc,hlt]
   go_wp2
   go_region_with (first|(go_at_call 183;refine(hA _ (by first|exact hJ|exact hJ.drew|exact hJ.drew.drew)).mono ?_;rintro e wn ⟨rfl,hbn⟩;have hJ:Below (w.heap.size+1) W1 wn:=(by first|exact cV hJ hWz hbn|exact cV hJ.drew hWz hbn|exact cV hJ.drew.drew hWz hbn);obtain⟨e0,e1,e2,e3,e4⟩:=dC ((hJ.block w.heap.size (Nat.lt_succ_self _)).trans x1))|(go_at_call 188;refine(hB _ (by first|exact hJ|exact hJ.drew|exact hJ.drew.drew)).mono ?_;rintro e wn ⟨rfl,hbn⟩;have hJ:Below (w.heap.size+1) W1 wn:=(by first|exact cV hJ hWz hbn|exact cV hJ.drew hWz hbn|exact cV hJ.drew.drew hWz hbn);obtain⟨e0,e1,e2,e3,e4⟩:=dC ((hJ.block w.heap.size (Nat.lt_succ_self _)).trans x1)))
   all_goals go_wp2
   all_goals go_ret
   all_goals exact⟨by rw [HD.out];exact congrArg (fun b=>Ending.returned (Value.bool b)) HW.out,hJw _ (by first|exact hJ|exact hJ.drew|exact hJ.drew.drew)⟩
 ·have hpb:((pl:Int)==0)=false:=by simp [hp]
  have HD:Hid ((pl==0&&decide (te+tk<62))=false):=by show _=_;simp [hp]
  clear hp
  go_wp2
  go_region
  all_goals go_wp2
  all_goals go_ret
  all_goals exact⟨by rw [HD.out];rfl,hJw _ (by first|exact hJ|exact hJ.drew|exact hJ.drew.drew)⟩
end Go.Proofs.YtfnhmpcpeahfkaaGreat.Tree
