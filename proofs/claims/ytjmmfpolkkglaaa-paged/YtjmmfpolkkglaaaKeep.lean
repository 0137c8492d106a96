/-
  What pick and rising of the law Paged answer and leave.
-/
import Derived.Test.YtjmmfpolkkglaaaRead8
import Derived.Laws.OwnMore
namespace Go.Proofs.Ytjmmfpolkkglaaa.Pages
open Go.RowKit
set_option linter.unusedSimpArgs false
set_option linter.unusedVariables false

theorem pick_any (c n : Int) (w : World) (h0 : -9223372036854775808 ≤ c) (h1 : c ≤ 9223372036854775807) (hn : 0 < n) :
    Calls Try.prog 20 #[.int .i64 c, .int .i64 n] w fun e w' => ∃ m : Int, 0 ≤ m ∧ m < n ∧ e = .returned (.int .i64 m) ∧ w' = w := by
  have hn0 : n ≠ 0 := by omega
  by_cases hc : c < 0
  · go_enter Try.func20, Try.ntmps20
    go_wp2
    go_ret
    have e : -((c + 1).tmod n) = (-(c + 1)) % n := by rw [← Int.neg_tmod, Int.tmod_eq_emod_of_nonneg (by omega)]
    exact ⟨_, by rw [e]; exact Int.emod_nonneg _ hn0, by rw [e]; exact Int.emod_lt_of_pos _ hn, rfl, rfl⟩
  · go_enter Try.func20, Try.ntmps20
    go_wp2
    go_ret
    exact ⟨_, Int.emod_nonneg _ hn0, Int.emod_lt_of_pos _ hn, rfl, rfl⟩

/-- two rows of one's own of other elements lie in other blocks -/
theorem own_differ {w : World} {B B' : Nat} {e e' : TypeId} {z z' : Nat} {v v' : Value} {n n' : Nat} {xs xs' : List Value} (h : w.ownsRow B e z v n xs) (h' : w.ownsRow B' e' z' v' n' xs') (he : e ≠ e') : v.ownBlock = none ∨ v.ownBlock ≠ v'.ownBlock := by
  obtain ⟨_, ⟨rfl, _⟩ | ⟨g, c, r, rfl, _, hg, _⟩⟩ := h
  · exact .inl rfl
  obtain ⟨_, ⟨rfl, _⟩ | ⟨g', c', r', rfl, _, hg', _⟩⟩ := h'
  · exact .inr (by simp [Value.ownBlock])
  · refine .inr fun hh => ?_
    have : g = g' := by simpa [Value.ownBlock] using hh
    subst this
    rw [hg] at hg'
    simp at hg'
    exact he hg'.2
/-- rows of one's own of other elements are as they were -/
def Kept (t : TypeId) (w w' : World) : Prop := ∀ B e z u n xs, e ≠ t → w.ownsRow B e z u n xs → w'.ownsRow B e z u n xs
theorem wp_append_key2 {ops : Array Oper} {rest : List Oper} {o : Oper} {a : Act} {Q : Exit → Act → World → Prop} (w : World) (hgd : o.guard = none) (sl x : Operand)
    (ho : o.op = .call { callee := .builtin .append, args := #[sl, x], argTypes := #[24, 24] }) (B : Nat) (ks : List ByteArray) (v : Value) (hs : a.eval sl = v) (hv : Keys w B v ks) (hB : B ≤ w.heap.size)
    (k : ByteArray) (hx : a.eval x = .slice (some ⟨w.heap.size, 0, none⟩) 1 1) (hl : ks.length + 1 ≤ 4294967296)
    (h : ∀ v' w', Keys w' B v' (ks ++ [k]) → Below B w w' → Kept 9 w w' → wpList Try.prog ops Q rest (a.put o.dst v') w') :
    wpList Try.prog ops Q (o :: rest) a (w.alloc (.cells #[.string k] 9)) := by
  obtain ⟨i0, hi, hz0, hz1, hz2⟩ := info_parts info9
  refine wpList_append_own _ hgd sl x 24 ho B 9 i0 (.string ⟨#[]⟩) 1 16 Try.underlying24 hi hz0 hz1 hz2 rfl (by decide) v ks.length (ks.map .string) hs (hv.alloc _) ⟨w.heap.size, 0, none⟩ 1 1 [.string k] hx rfl (one_cell _ _) (by intro u hu; simp at hu; subst hu; rfl) (by unfold maxLen; omega) (by omega) (by simp; omega) ?_
  intro v1 w1 ho1 hg1 _
  refine h v1 w1 ?_ (((Below.refl B w).alloc hB _).grown hg1 (by simp; omega) (fun k' hk' => (World.ownsRow.lt (w := w) hv k' hk').1)) ?_
  · unfold Keys
    rw [List.map_append, List.length_append]
    exact ho1
  · intro B' e z u n xs he hu
    exact World.ownsRow.kept (World.ownsRow.alloc (w := w) hu _) hg1 (own_differ (World.ownsRow.alloc (w := w) hu (.cells #[.string k] 9)) (hv.alloc _) he)
theorem wp_append_int2 {ops : Array Oper} {rest : List Oper} {o : Oper} {a : Act} {Q : Exit → Act → World → Prop} (w : World) (hgd : o.guard = none) (sl x : Operand)
    (ho : o.op = .call { callee := .builtin .append, args := #[sl, x], argTypes := #[25, 25] }) (B : Nat) (ks : List Int) (v : Value) (hs : a.eval sl = v) (hv : Ints w B v ks) (hB : B ≤ w.heap.size)
    (k : Int) (hx : a.eval x = .slice (some ⟨w.heap.size, 0, none⟩) 1 1) (hl : ks.length + 1 ≤ 4294967296)
    (h : ∀ v' w', Ints w' B v' (ks ++ [k]) → Below B w w' → Kept 3 w w' → wpList Try.prog ops Q rest (a.put o.dst v') w') :
    wpList Try.prog ops Q (o :: rest) a (w.alloc (.cells #[.int .i64 k] 3)) := by
  obtain ⟨i0, hi, hz0, hz1, hz2⟩ := info_parts info3'
  refine wpList_append_own _ hgd sl x 25 ho B 3 i0 (.int .i64 0) 1 8 Try.underlying25 hi hz0 hz1 hz2 rfl (by decide) v ks.length (ks.map (.int .i64)) hs (hv.alloc _) ⟨w.heap.size, 0, none⟩ 1 1 [.int .i64 k] hx rfl (one_cell _ _) (by intro u hu; simp at hu; subst hu; rfl) (by unfold maxLen; omega) (by omega) (by simp; omega) ?_
  intro v1 w1 ho1 hg1 _
  refine h v1 w1 ?_ (((Below.refl B w).alloc hB _).grown hg1 (by simp; omega) (fun k' hk' => (World.ownsRow.lt (w := w) hv k' hk').1)) ?_
  · unfold Ints
    rw [List.map_append, List.length_append]
    exact ho1
  · intro B' e z u n xs he hu
    exact World.ownsRow.kept (World.ownsRow.alloc (w := w) hu _) hg1 (own_differ (World.ownsRow.alloc (w := w) hu (.cells #[.int .i64 k] 3)) (hv.alloc _) he)
theorem less_total : ∀ (a b : List UInt8), Op.bytesLess a b = false → (a == b) = false → Op.bytesLess b a = true
  | [], [], _, h => by simp at h
  | [], b :: y, h, _ => by simp [Op.bytesLess] at h
  | a :: x, [], _, _ => rfl
  | a :: x, b :: y, h, he => by
    simp only [Op.bytesLess, Bool.or_eq_false_iff, decide_eq_false_iff_not, Bool.and_eq_false_imp, beq_iff_eq] at h
    simp only [Op.bytesLess, Bool.or_eq_true, decide_eq_true_eq, Bool.and_eq_true, beq_iff_eq]
    by_cases hab : a = b
    · subst hab
      refine .inr ⟨rfl, less_total x y (h.2 rfl) ?_⟩
      simpa using he
    · refine .inl ?_
      have h1 := h.1
      rw [UInt8.lt_iff_toNat_lt] at h1 ⊢
      have : a.toNat ≠ b.toNat := fun e => hab (UInt8.toNat_inj.1 e)
      omega
theorem rising_snoc (a k t : ByteArray) (ht : t.size ≤ 24) (hl : Op.bytesLess k.toList t.toList = true) : ∀ (l : List ByteArray), risingB a (l ++ [k]) = true → risingB a (l ++ [k] ++ [t]) = true
  | [], h => by
    simp only [List.nil_append, risingB, Bool.and_true] at h
    simp only [List.nil_append, List.cons_append, risingB, Bool.and_true, h, Bool.true_and]
    simp [followsB, hl, ht]
  | b :: l, h => by
    simp only [List.cons_append, risingB, Bool.and_eq_true] at h ⊢
    exact ⟨h.1, rising_snoc b k t ht hl l h.2⟩
theorem own_last {w : World} {B : Nat} {v : Value} {ks : List ByteArray} {k : ByteArray} (h : Keys w B v (ks ++ [k])) : ∃ g c, v = .slice (some ⟨g, 0, none⟩) (ks.length + 1) c ∧ w.cell? ⟨g, ks.length, none⟩ = some (.string k) := by
  have hl : (ks ++ [k]).length = ks.length + 1 := by simp
  obtain ⟨_, ⟨_, h0⟩ | ⟨g, c, cur, rfl, hr⟩⟩ := id h
  · rw [hl] at h0; simp at h0
  · refine ⟨g, c, by rw [hl], ?_⟩
    have := World.ownsRow.cellAt (w := w) h ks.length (by rw [hl]; omega)
    rw [this]
    simp
theorem ext_le (t : ByteArray) (n : Nat) (h : n ≤ t.size) : (t.extract 0 n).size = n := by simp; omega
set_option maxRecDepth 100000 in
set_option maxHeartbeats 1000000 in
theorem rising_keep (ta : Option Addr) (tc : Nat) (texts : List ByteArray) (most : Nat) (v0 : Value) (kids : List Int) (kid : Int) (B : Nat) (w : World) (hT : RowAt w B ta (texts.map .string)) (hI : Ints w B v0 kids) (hB : B ≤ w.heap.size) (hm1 : 1 ≤ most) (hm : most ≤ 6) (hk : kids.length ≤ 6) (hn : texts.length ≤ 9223372036854775807) :
    Calls Try.prog 21 #[.slice ta texts.length tc, .int .i64 most, v0, .int .i64 kid] w fun e w' => ∃ vl vi l, e = .returned (.tuple #[vl, vi]) ∧ Keys w' B vl l ∧ Ints w' B vi (kids ++ List.replicate l.length kid) ∧ risingB ⟨#[]⟩ l = true ∧ 1 ≤ l.length ∧ l.length ≤ most ∧ Below B w w' := by
  have hW0 := (Below.refl B w).alloc hB (.cells #[.string ⟨#[0]⟩] 9)
  have hL0 : Keys (w.alloc (.cells #[.string ⟨#[0]⟩] 9)) B (.slice (some ⟨w.heap.size, 0, none⟩) 1 1) ([] ++ [⟨#[0]⟩]) := World.ownsRow_lit w #[.string ⟨#[0]⟩] 1 hB (by decide) rfl
  have hI0 := hI.alloc (.cells #[.string ⟨#[0]⟩] 9)
  have hz0 : B ≤ (w.alloc (.cells #[.string ⟨#[0]⟩] 9)).heap.size := Nat.le_trans hB hW0.size
  have hs0 : (w.alloc (.cells #[.string ⟨#[0]⟩] 9)).heap.size = w.heap.size + 1 := by simp

  go_enter Try.func21, Try.ntmps21
  go_wp2_with (at_builtin; refine wp_append_int2 (w.alloc (.cells #[.string ⟨#[0]⟩] 9)) rfl (.tmp 14) (.tmp 16) rfl B _ v0 rfl hI0 hz0 kid (by simp [Act.eval]) (by omega) ?_; intro v1 w1 hi1 hb1 hk1)
  have hL1 := hk1 B _ _ _ _ _ (by decide) hL0
  have hB1 := hW0.trans hb1
  clear hW0 hL0 hI0 hz0 hs0 hb1 hk1
  go_loopw [2, 10, 11] (fun u l i wr => ∃ (j : Nat) (ks : List ByteArray) (k : ByteArray), j ≤ texts.length ∧ i = .int .i64 j ∧ Keys wr B l (ks ++ [k]) ∧ Ints wr B u (kids ++ List.replicate (ks.length + 1) kid) ∧ Hid (risingB ⟨#[]⟩ (ks ++ [k]) = true) ∧ ks.length + 1 ≤ most ∧ Below B w wr) (fun _ _ i _ => texts.length - (intOf i).toNat)
  case atStart => exact ⟨0, [], ⟨#[0]⟩, Nat.zero_le _, rfl, hL1, hi1, by show _ = _; decide +kernel, by simpa using hm1, hB1⟩
  case round =>
    clear hL1 hi1 hB1
    obtain ⟨j, ks, k, hj, rfl, hK, hU, HR, hms, hb⟩ := hrel
    have hBr : B ≤ wr.heap.size := Nat.le_trans hB hb.size
    obtain ⟨g, c, rfl, hlast⟩ := own_last hK
    by_cases hlt : j < texts.length
    · by_cases hmo : ks.length + 1 < most
      · obtain ⟨ib, io, hia, hib, hic⟩ := (hT.below hb).at hlt
        subst hia
        have hmo' : ((ks.length : Int) + 1) < (most : Int) := by omega
        clear hT hI
        go_wp2
        go_quiet (fail)
        obtain ⟨T, hTT, hT24⟩ : ∃ T : ByteArray, texts[j].extract 0 (if 24 < (texts[j].size : Int) then 24 else (texts[j].size : Int)).toNat = T ∧ T.size ≤ 24 := ⟨_, rfl, by rw [ByteArray.size_extract]; split <;> omega⟩
        rw [hTT]
        clear hTT
        obtain ⟨w2, hw2⟩ : ∃ w2, wr.drewN nq = w2 := ⟨_, rfl⟩
        have hK2 : Keys w2 B (.slice (some ⟨g, 0, none⟩) (ks.length + 1) c) (ks ++ [k]) := by rw [← hw2]; exact hK
        have hU2 : Ints w2 B u2 (kids ++ List.replicate (ks.length + 1) kid) := by rw [← hw2]; exact hU
        have hl2 : w2.cell? ⟨g, ks.length, none⟩ = some (.string k) := by rw [← hw2]; exact hlast
        have hb2 : Below B w w2 := by rw [← hw2]; exact below_drewN hb _
        have hB2 : B ≤ w2.heap.size := by rw [← hw2]; exact hBr
        rw [hw2]
        clear hw2 hK hU hlast hb hBr hic
        have lk : (ks ++ [k]).length + 1 ≤ 4294967296 := by simp; omega
        have li : (kids ++ List.replicate (ks.length + 1) kid).length + 1 ≤ 4294967296 := by simp; omega
        cases hless : Op.bytesLess T.toList k.toList
        · cases heq : (T.toList == k.toList)
          · have hN : Hid (risingB ⟨#[]⟩ (ks ++ [k] ++ [T]) = true) := rising_snoc _ k T hT24 (less_total _ _ hless heq) ks HR.out
            go_upto_region 8 with fail
            generalize Value.slice (some ⟨g, 0, none⟩) (ks.length + 1) c = V at *
            go_wp2_with (first | (at_builtin; refine wp_append_key2 w2 rfl (.tmp 49) (.tmp 51) rfl B _ V rfl hK2 hB2 T rfl lk ?_; intro v3 w3 hK3 hb3 hk3; have hU3 : Ints w3 B u2 (kids ++ List.replicate (ks.length + 1) kid) := hk3 B _ _ _ _ _ (by decide) hU2; have hB3 := Nat.le_trans hB2 hb3.size) | (at_builtin; refine wp_append_int2 w3 rfl (.tmp 53) (.tmp 55) rfl B _ u2 rfl hU3 hB3 kid rfl li ?_; intro v4 w4 hU4 hb4 hk4; have hK4 : Keys w4 B v3 (ks ++ [k] ++ [T]) := hk4 B _ _ _ _ _ (by decide) hK3))
            have hlen : (ks ++ [k]).length = ks.length + 1 := by simp
            have hrep : kids ++ List.replicate (ks.length + 1) kid ++ [kid] = kids ++ List.replicate ((ks ++ [k]).length + 1) kid := by rw [hlen, List.append_assoc, List.replicate_succ' (n := ks.length + 1)]
            rw [hrep] at hU4
            go_roundw
            case rel => exact ⟨j + 1, ks ++ [k], T, by omega, by go_num, hK4, hU4, hN, by rw [hlen]; omega, (hb2.trans hb3).trans hb4⟩
            case measure => simp [intOf]; omega
          · go_wp2
            go_roundw
            case rel => exact ⟨j + 1, ks, k, by omega, by go_num, hK2, hU2, HR, hms, hb2⟩
            case measure => simp [intOf]; omega
        · go_wp2
          go_roundw
          case rel => exact ⟨j + 1, ks, k, by omega, by go_num, hK2, hU2, HR, hms, hb2⟩
          case measure => simp [intOf]; omega
      · have hmo' : ¬ ((ks.length : Int) + 1) < (most : Int) := by omega
        clear hT hI
        go_wp2
        go_ret2
        exact ⟨_, _, rfl, ks ++ [k], hK, by simpa using hU, HR.out, by simp, by simpa using hms, hb⟩
    · clear hT hI
      go_wp2
      go_ret2
      exact ⟨_, _, ks ++ [k], rfl, hK, by simpa using hU, HR.out, by simp, by simpa using hms, hb⟩
end Go.Proofs.Ytjmmfpolkkglaaa.Pages
