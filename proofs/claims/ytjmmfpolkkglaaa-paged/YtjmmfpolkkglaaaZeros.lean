/-
  The operation append(b, make([]byte, m)...) on a row of bytes that the call itself made and that is not empty: so many zeros more.
-/
import Derived.Test.YtjmmfpolkkglaaaBuf
namespace Go.Proofs.Ytjmmfpolkkglaaa.Pages
open Go.RowKit
set_option linter.unusedSimpArgs false

theorem zeroCells_eq (m : Nat) : Builtin.zeroCells (Value.int .u8 0).cells m = ((List.replicate m (0 : UInt8)).map byteV).toArray := by
  apply Array.ext
  · simp [Builtin.zeroCells, Value.cells]
  · intro i h1 h2
    simp [Builtin.zeroCells, Value.cells, byteV, Nat.mod_one]

theorem run_append_zeros (w : World) (ty : TypeId) (B : Nat) (v : Value) (bs : List UInt8) (hv : Buf w B v bs) (hne : bs ≠ []) (m : Nat) (hB : B ≤ w.heap.size) (hl : bs.length + m ≤ 140737488355328) :
    ∃ v' w', (Builtin.append_ #[43, 3] ty #[v, .int .i64 m]).run Try.prog w = .ok v' w' ∧ Buf w' B v' (bs ++ List.replicate m 0) ∧ Grew B w w' := by
  obtain ⟨i0, hi, hz0, hz1, hz2⟩ := info_parts info8
  have hw : IntKind.i64.wrap (m : Int) = (m : Int) := by simp [IntKind.wrap, IntKind.bits, IntKind.signed]; omega
  have hm0 : ¬ ((m : Int) < 0) := by omega
  have hm1 : ¬ ((281474976710656 : Int) < (m : Int)) := by omega
  have hlen : (bs ++ List.replicate m (0 : UInt8)).length = bs.length + m := by simp
  obtain ⟨hx1, hx2⟩ := id hv
  rcases hx2 with ⟨_, h0⟩ | ⟨g, cap, cur, rfl, hbg, hg, hnc, hcm, hcs, htake⟩
  · exact absurd (List.eq_nil_of_length_eq_zero h0) hne
  · have hcs' : cur.size = cap := by simpa using hcs
    have hai : ∀ u : World, Sem.run Try.prog (asIntOf (Value.int IntKind.i64 (m : Int))) u = .ok (.i64, (m : Int)) u := fun _ => rfl
    by_cases hroom : bs.length + m ≤ cap
    · have hst := run_storeCells_at Try.prog g bs.length 5 ((List.replicate m (0 : UInt8)).map byteV) 0 cur w hg (by simp; omega) (by intro u hu; simp only [List.mem_map] at hu; obtain ⟨b, _, rfl⟩ := hu; rfl)
      simp only [Nat.add_zero, List.length_map, List.length_replicate] at hst
      have hgrown : w.grownBy (w.setRow g (cur.toList.take bs.length ++ (List.replicate m (0 : UInt8)).map byteV ++ cur.toList.drop (bs.length + m)).toArray) (Value.ownBlock (.slice (some ⟨g, 0, none⟩) bs.length cap)) := ⟨rfl, rfl, rfl, by simp, fun k _ hk => setRow_other w g k _ (fun e => hk (by simp [Value.ownBlock, e]))⟩
      refine ⟨.slice (some ⟨g, 0, none⟩) (bs.length + m) cap, w.setRow g (cur.toList.take bs.length ++ (List.replicate m (0 : UInt8)).map byteV ++ cur.toList.drop (bs.length + m)).toArray, ?_, ?_, Grew.grown hv hgrown hB⟩
      · by_cases hmz : m = 0
        · have hmp : (m : Int) ≤ 0 := by omega
          simp [Builtin.append_, run_underlying Try.underlying43, run_underlying Try.underlying3, sizeOf, typeInfo, hi, hz0, hz1, hz2, asInt, hai, hw, hm0, hm1, hroom, zeroValue, Addr.add_lit, hmp]
          simp only [hmz, List.replicate_zero, List.map_nil] at hst ⊢
          simp [hst]
        · have hmp : ¬ ((m : Int) ≤ 0) := by omega
          simp [Builtin.append_, run_underlying Try.underlying43, run_underlying Try.underlying3, sizeOf, typeInfo, hi, hz0, hz1, hz2, asInt, hai, hw, hm0, hm1, hroom, zeroValue, Addr.add_lit, zeroCells_eq, hmz, hmp]
          simp only [List.map_replicate, List.append_assoc] at hst
          rw [hst]; rfl
      · refine ⟨by simp, .inr ⟨g, cap, _, by rw [hlen], hbg, setRow_heap w g cur _ 5 _ hg, by rw [hlen]; exact hroom, hcm, ?_, ?_⟩⟩
        · simp only [List.size_toArray, List.length_append, List.length_take, List.length_drop, Array.length_toList, List.length_map, List.length_replicate]
          omega
        · have ht' : cur.toList.take bs.length = bs.map byteV := by simpa using htake
          rw [ht', hlen, Nat.mul_one, List.map_append]
          have : (bs.map byteV ++ (List.replicate m (0 : UInt8)).map byteV).length = bs.length + m := by simp
          rw [← this]
          exact List.take_left
    · have holds : ∀ j u, (bs.map byteV)[j]? = some u → w.cell? ((⟨g, 0, none⟩ : Addr).add j) = some u := World.ownsRow.cells (w := w) hv (g := g) rfl
      have hmz : ¬ m = 0 := by omega
      have hmp : ¬ ((m : Int) ≤ 0) := by omega
      have hmx : max (m : Int) 0 = (m : Int) := by omega
      have h63' : ¬ (9223372036854775807 < ((bs.length : Int) + (m : Int))) := by omega
      have h48 := growslice_fits (need := bs.length + m) (old := cap) (bytes := 1) (by omega) (by omega)
      have h48' : ¬ (281474976710656 < Builtin.nextslicecap (bs.length + m) cap) := by omega
      have hfo := run_firstCells_some (P := Try.prog) w.drew 1 bs.length ⟨g, 0, none⟩ bs.length cap (bs.map byteV) (by simp) (by simpa using holds)
      have hge := grownCap_ge w (bs.length + m) cap 5
      have hcm' : grownCap w (bs.length + m) cap 5 ≤ maxLen := grownCap_le_maxLen w (bs.length + m) cap 5 (by unfold maxLen; omega)
      refine ⟨.slice (some ⟨w.heap.size, 0, none⟩) (bs.length + m) (grownCap w (bs.length + m) cap 5), w.drew.alloc (.cells ((bs.map byteV).toArray ++ (((List.replicate m (0 : UInt8)).map byteV).toArray ++ Builtin.zeroCells (Value.int .u8 0).cells (grownCap w (bs.length + m) cap 5 - (bs.length + m)))) 5), ?_, ?_, ?_⟩
      · simp [Builtin.append_, run_underlying Try.underlying43, run_underlying Try.underlying3, sizeOf, typeInfo, hi, hz0, hz1, hz2, asInt, hai, hw, hm0, hm1, hroom, zeroValue, hmz, hmp, hmx, h63', h48', Question.forced, hfo, newRow, grownCap, zeroCells_eq]
      · refine ⟨by simp, .inr ⟨w.heap.size, _, _, by rw [hlen], hB, heap_alloc_new w.drew _, by rw [hlen]; exact hge, hcm', ?_, ?_⟩⟩
        · simp [zeroCells_eq]; omega
        · rw [hlen, Nat.mul_one, List.map_append]
          simp only [Array.toList_append]
          have : (bs.map byteV ++ (List.replicate m (0 : UInt8)).map byteV).length = bs.length + m := by simp
          rw [← List.append_assoc, ← this]
          exact List.take_left
      · exact ((Grew.refl B w).trans ⟨rfl, rfl, rfl, Nat.le_refl _, fun _ _ => rfl, fun _ _ h _ => h⟩ : Grew B w w.drew).alloc hB _

/-- the operation: so many zeros more -/
theorem wp_append_zeros {ops : Array Oper} {rest : List Oper} {o : Oper} {a : Act} {Q : Exit → Act → World → Prop} (w : World) (hgd : o.guard = none) (sl x : Operand)
    (ho : o.op = .call { callee := .builtin .append, args := #[sl, x], argTypes := #[43, 3] }) (B : Nat) (bs : List UInt8) (v : Value) (hs : a.eval sl = v) (hv : Buf w B v bs) (hne : bs ≠ []) (hB : B ≤ w.heap.size)
    (m : Nat) (z : Int) (hz : z = (m : Int)) (hx : a.eval x = .int .i64 z) (hl : bs.length + m ≤ 140737488355328)
    (h : ∀ v' w', Buf w' B v' (bs ++ List.replicate m 0) → Grew B w w' → wpList Try.prog ops Q rest (a.put o.dst v') w') :
    wpList Try.prog ops Q (o :: rest) a w := by
  refine wpList_plain hgd fun K hK => ?_
  subst hz
  obtain ⟨v', w', hr, h2, h3⟩ := run_append_zeros w o.type B v bs hv hne m hB hl
  unfold Oper.wp execOp
  simp only [ho, resolve, invoke, builtin, Sem.run_bind, Sem.run_pure, Result.andThen_ok, List.map_toArray, List.map_cons, List.map_nil, hs, hx, hr]
  exact hK _ _ (h v' w' h2 h3)
end Go.Proofs.Ytjmmfpolkkglaaa.Pages
