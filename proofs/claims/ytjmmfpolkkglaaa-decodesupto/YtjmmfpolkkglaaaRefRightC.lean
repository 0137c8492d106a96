/-
  What the reference's right answers of a leaf; and of every page: the same as page.right.
-/
import Derived.Test.YtjmmfpolkkglaaaRefRightB
namespace Go.Proofs.Ytjmmfpolkkglaaa.Pages
open Go.RowKit
set_option linter.unusedSimpArgs false
set_option linter.unusedVariables false

theorem info9 : (Try.prog.info? 9).map (fun i => (i.zero, i.size, i.bytes)) = some (some (.string ⟨#[]⟩), 1, 16) := by kernel_rfl
def Keys (w : World) (B : Nat) (v : Value) (ks : List ByteArray) : Prop := w.ownsRow B 9 1 v ks.length (ks.map .string)
theorem Keys.nil (w : World) (B : Nat) : Keys w B (.slice none 0 0) [] := World.ownsRow_nil _ _ _ _
theorem Keys.alloc {w : World} {B : Nat} {v : Value} {ks : List ByteArray} (h : Keys w B v ks) (o : Obj) : Keys (w.alloc o) B v ks := World.ownsRow.alloc (w := w) h o
theorem Keys.below {w w' : World} {B : Nat} {v : Value} {ks : List ByteArray} (h : Keys w B v ks) (hb : Below w.heap.size w w') : Keys w' B v ks :=
  World.ownsRow.kept (row := none) h ⟨hb.os, hb.tape, hb.output, hb.size, fun k hk _ => hb.block k hk⟩ (by cases v.ownBlock <;> simp)
theorem Keys.shape {w : World} {B : Nat} {v : Value} {ks : List ByteArray} (h : Keys w B v ks) : ∃ a c, v = .slice a ks.length c ∧ RowAt w w.heap.size a (ks.map .string) := by
  have hc := fun g hg => World.ownsRow.cells (w := w) h (g := g) hg
  have hlt := World.ownsRow.lt (w := w) h
  obtain ⟨_, h2⟩ := id h
  rcases h2 with ⟨rfl, h0⟩ | ⟨g, cap, cur, rfl, _⟩
  · obtain rfl := List.eq_nil_of_length_eq_zero h0
    exact ⟨none, 0, rfl, .inl rfl⟩
  · refine ⟨_, _, rfl, .inr ⟨g, 0, rfl, (hlt g rfl).2, fun i u hu => ?_⟩⟩
    have := hc g rfl i u hu
    have e : (⟨g, 0, none⟩ : Addr).add i = ⟨g, 0 + i, none⟩ := by unfold Addr.add; split <;> simp_all
    rw [e] at this
    exact this
/-- the operation: one key more -/
theorem wp_append_key {ops : Array Oper} {rest : List Oper} {o : Oper} {a : Act} {Q : Exit → Act → World → Prop} (w : World) (hgd : o.guard = none) (sl x : Operand)
    (ho : o.op = .call { callee := .builtin .append, args := #[sl, x], argTypes := #[24, 24] }) (B : Nat) (ks : List ByteArray) (v : Value) (hs : a.eval sl = v) (hv : Keys w B v ks) (hB : B ≤ w.heap.size)
    (k : ByteArray) (hx : a.eval x = .slice (some ⟨w.heap.size, 0, none⟩) 1 1) (hl : ks.length + 1 ≤ 4294967296)
    (h : ∀ v' w', Keys w' B v' (ks ++ [k]) → Below B w w' → wpList Try.prog ops Q rest (a.put o.dst v') w') :
    wpList Try.prog ops Q (o :: rest) a (w.alloc (.cells #[.string k] 9)) := by
  obtain ⟨i0, hi, hz0, hz1, hz2⟩ := info_parts info9
  refine wpList_append_own _ hgd sl x 24 ho B 9 i0 (.string ⟨#[]⟩) 1 16 Try.underlying24 hi hz0 hz1 hz2 rfl (by decide) v ks.length (ks.map .string) hs (hv.alloc _) ⟨w.heap.size, 0, none⟩ 1 1 [.string k] hx rfl (one_cell _ _) (by intro u hu; simp at hu; subst hu; rfl) (by unfold maxLen; omega) (by omega) (by simp; omega) ?_
  intro v1 w1 ho1 hg1 _
  refine h v1 w1 ?_ (((Below.refl B w).alloc hB _).grown hg1 (by simp; omega) (fun k' hk' => (World.ownsRow.lt (w := w) hv k' hk').1))
  unfold Keys
  rw [List.map_append, List.length_append]
  exact ho1

def Ent.ok (e : Ent) : Bool := entB e.key e.val e.size e.over
theorem leafOk_eq (last : ByteArray) (ents : List Ent) : leafOk last ents = (ents.all Ent.ok && risingB last (ents.map Ent.key)) := by
  induction ents generalizing last with
  | nil => rfl
  | cons e r ih =>
    simp only [leafOk, List.all_cons, List.map_cons, risingB, ih, Ent.ok, entB, follows_next]
    cases keyB e.key <;> cases Op.bytesLess last.toList e.key.toList <;> cases valB e.val e.size e.over <;> simp

set_option maxRecDepth 100000 in
set_option maxHeartbeats 4000000 in
theorem ref_right_3 (ver root next : Int) (ka ia ea : Option Addr) (kc ic ec : Nat) (data : ByteArray) (keys : List ByteArray) (kids : List Int) (ents : List Ent) (w : World) (hK : RowAt w w.heap.size ka (keys.map .string)) (hI : RowAt w w.heap.size ia (kids.map (.int .i64))) (hE : RowAt w w.heap.size ea (ents.flatMap Ent.cells)) (hkn : keys.length ≤ 1073741824) (hin : kids.length ≤ 1073741824) (hen : ents.length ≤ 1073741824) :
    Calls Try.prog 25 #[.agg #[.int .i64 3, .int .i64 ver, .int .i64 root, .int .i64 next, .slice ka keys.length kc, .slice ia kids.length ic, .slice ea ents.length ec, .string data]] w fun e w' => e = .returned (.bool (noMeta ver root && noBranch keys kids && noOver next data && (decide (ents.length ≠ 0) && leafOk ⟨#[]⟩ ents))) ∧ Below w.heap.size w w' := by
  have hb := (Below.refl w.heap.size w).alloc (Nat.le_refl _) (.cells #[.int .i64 3, .int .i64 ver, .int .i64 root, .int .i64 next, .slice ka keys.length kc, .slice ia kids.length ic, .slice ea ents.length ec, .string data] 28)
  go_enter Try.func25, Try.ntmps25
  go_upto_region 1 with fail
  go_cut [24] (fun s24 wx => s24 = .bool (!noMeta ver root) ∧ wx = (w.alloc (.cells #[.int .i64 3, .int .i64 ver, .int .i64 root, .int .i64 next, .slice ka keys.length kc, .slice ia kids.length ic, .slice ea ents.length ec, .string data] 28)))
  case first =>
    cases hq : (ver == 0)
    · have hq' : (ver != 0) = true := by simp [bne, hq]
      go_wp2_with fail; go_meet; exact ⟨congrArg Value.bool (by simp only [noMeta, hq, Bool.false_and, Bool.not_false]), rfl⟩
    · have hq' : (ver != 0) = false := by simp [bne, hq]
      go_wp2_with fail; go_meet; exact ⟨congrArg Value.bool (by simp only [noMeta, hq, Bool.true_and, bne]), rfl⟩
  case rest =>
  obtain ⟨rfl, rfl⟩ := hcut
  cases hnm : noMeta ver root
  · go_wp2_with fail
    go_ret
    exact ⟨ret_bool (by simp [Bool.and_assoc, hnm]), hb⟩
  go_upto_region 3 with fail
  go_cut [39] (fun s39 wx => s39 = .bool (!noBranch keys kids) ∧ wx = (w.alloc (.cells #[.int .i64 3, .int .i64 ver, .int .i64 root, .int .i64 next, .slice ka keys.length kc, .slice ia kids.length ic, .slice ea ents.length ec, .string data] 28)))
  case first =>
    cases hq : decide (0 < keys.length)
    · go_wp2_with fail; go_meet; exact ⟨congrArg Value.bool (noBranch_kids hq).symm, rfl⟩
    · go_wp2_with fail; go_meet; exact ⟨congrArg Value.bool (noBranch_keys hq).symm, rfl⟩
  case rest =>
  obtain ⟨rfl, rfl⟩ := hcut
  cases hnb : noBranch keys kids
  · go_wp2_with fail
    go_ret
    exact ⟨ret_bool (by simp [Bool.and_assoc, hnb]), hb⟩
  go_upto_region 5 with fail
  go_cut [63] (fun s63 wx => s63 = .bool (!noOver next data) ∧ wx = (w.alloc (.cells #[.int .i64 3, .int .i64 ver, .int .i64 root, .int .i64 next, .slice ka keys.length kc, .slice ia kids.length ic, .slice ea ents.length ec, .string data] 28)))
  case first =>
    cases hq : (next == 0)
    · have hq' : (next != 0) = true := by simp [bne, hq]
      go_wp2_with fail; go_meet; exact ⟨congrArg Value.bool (by simp only [noOver, hq, Bool.false_and, Bool.not_false]), rfl⟩
    · have hq' : (next != 0) = false := by simp [bne, hq]
      go_wp2_with fail; go_meet; exact ⟨congrArg Value.bool (by simp only [noOver, hq, Bool.true_and]), rfl⟩
  case rest =>
  obtain ⟨rfl, rfl⟩ := hcut
  cases hlo : (noOver next data)
  · go_wp2_with fail
    go_ret
    exact ⟨ret_bool (by simp [hlo]), hb⟩
  · have hEb := (hE.below hb).mono (show w.heap.size ≤ (w.alloc (.cells #[.int .i64 3, .int .i64 ver, .int .i64 root, .int .i64 next, .slice ka keys.length kc, .slice ia kids.length ic, .slice ea ents.length ec, .string data] 28)).heap.size by simp)
    have HL : Hid ((decide (ents.length ≠ 0) && leafOk ⟨#[]⟩ ents) = (ents.all Ent.ok && risingB ⟨#[]⟩ (ents.map Ent.key) && decide (1 ≤ ents.length))) := by
      show _ = _
      rw [leafOk_eq, Bool.and_comm]
      congr 2
      apply propext; omega
    go_wp2
    have hbB := (Below.refl (w.heap.size + 1) (w.alloc (.cells #[.int .i64 3, .int .i64 ver, .int .i64 root, .int .i64 next, .slice ka keys.length kc, .slice ia kids.length ic, .slice ea ents.length ec, .string data] 28)))
    go_loopw [7, 8] (fun u i wr => ∃ j : Nat, j ≤ ents.length ∧ i = .int .i64 j ∧ Keys wr (w.heap.size + 1) u ((ents.take j).map Ent.key) ∧ Below (w.heap.size + 1) (w.alloc (.cells #[.int .i64 3, .int .i64 ver, .int .i64 root, .int .i64 next, .slice ka keys.length kc, .slice ia kids.length ic, .slice ea ents.length ec, .string data] 28)) wr ∧ Hid (ents.all Ent.ok = (ents.drop j).all Ent.ok)) (fun _ i _ => ents.length - (intOf i).toNat)
    case atStart => exact ⟨0, Nat.zero_le _, rfl, Keys.nil _ _, Below.refl _ _, by show _ = _; simp⟩
    case round =>
      obtain ⟨j, hj, rfl, hkr, hbr, HA⟩ := hrel
      have hsz : w.heap.size + 1 ≤ wr.heap.size := by have := hbr.size; simpa using this
      have hxr : wr.heap[w.heap.size]? = some (.cells #[.int .i64 3, .int .i64 ver, .int .i64 root, .int .i64 next, .slice ka keys.length kc, .slice ia kids.length ic, .slice ea ents.length ec, .string data] 28) := by rw [hbr.block _ (by omega)]; exact heap_new _ _
      have HBr : Below w.heap.size w wr := hb.trans (hbr.mono (by omega))
      obtain ⟨e0, e1, e2, e3, e4, e5, e6, e7⟩ := box8 hxr
      by_cases hlt : j < ents.length
      · obtain ⟨ib, io, hia, hib, d0, d1, d2, d3⟩ := (hE.below HBr).ent hlt
        have hjw : j * 4 ≤ 4294967296 := by omega
        have lk : ((ents.take j).map Ent.key).length + 1 ≤ 4294967296 := by simp; omega
        have hwz : w.heap.size < wr.heap.size := by omega
        have hib2 : ib < wr.heap.size := by omega
        subst hia
        cases hp : entB ents[j].key ents[j].val ents[j].size ents[j].over
        · have HN : Hid (ents.all Ent.ok = false) := HA.out.trans (all_no hlt hp)
          clear HA hE hEb
          go_wp2_with (go_at_call 44; refine (isEntry_any _ _ _ _ _).mono ?_; rintro e w2 ⟨rfl, hb2⟩)
          go_ret
          exact ⟨ret_bool (by simp only [HL.out, HN.out, Bool.false_and, Bool.and_false]), HBr.trans (hb2.mono (by omega))⟩
        · have HA2 : Hid (ents.all Ent.ok = (ents.drop (j + 1)).all Ent.ok) := HA.out.trans (all_yes hlt hp)
          clear HA hE hEb
          go_wp2_with (first | (go_at_call 44; refine (isEntry_any _ _ _ _ _).mono ?_; rintro e w2 ⟨rfl, hb2⟩; have hx2 := (hb2.block w.heap.size hwz).trans hxr; obtain ⟨f0, f1, f2, f3, f4, f5, f6, f7⟩ := box8 hx2; have g0 := (hb2.cell (p := ⟨ib, io + j * 4, none⟩) hib2).trans d0; have hk2 := hkr.below hb2; have hB2 : w.heap.size + 1 ≤ w2.heap.size := Nat.le_trans hsz hb2.size) | (at_builtin; refine wp_append_key w2 rfl (.tmp 138) (.tmp 145) rfl (w.heap.size + 1) _ u7 rfl hk2 hB2 ents[j].key rfl lk ?_; intro v3 w3 hk3 hb3))
          have HB3 : Below (w.heap.size + 1) (w.alloc (.cells #[.int .i64 3, .int .i64 ver, .int .i64 root, .int .i64 next, .slice ka keys.length kc, .slice ia kids.length ic, .slice (some ⟨ib, io, none⟩) ents.length ec, .string data] 28)) w3 := hbr.trans ((hb2.mono hsz).trans hb3)
          go_roundw
          case rel => first | exact ⟨j + 1, by omega, by go_num, by rw [List.take_succ_eq_append_getElem hlt, List.map_append]; exact hk3, HB3, HA2⟩ | ((repeat apply Exists.intro); exact ⟨⟨j + 1, by omega, by go_num, by rw [List.take_succ_eq_append_getElem hlt, List.map_append]; exact hk3, HB3, HA2⟩, rfl⟩)
          case measure => simp [intOf]; omega
      · obtain rfl : j = ents.length := by omega
        have HA2 : Hid (ents.all Ent.ok = true) := by show _ = _; rw [HA.out, List.drop_eq_nil_of_le (by omega)]; rfl
        rw [List.take_length] at hkr
        obtain ⟨ka3, kc3, hkv, hrow⟩ := hkr.shape
        have hkl : (ents.map Ent.key).length ≤ 1073741824 := by simpa using hen
        subst hkv
        clear HA hE hEb
        obtain ⟨R, hR⟩ : ∃ R, R = risingB ⟨#[]⟩ (ents.map Ent.key) := ⟨_, rfl⟩
        have HR : Hid (risingB ⟨#[]⟩ (ents.map Ent.key) = R) := hR.symm
        clear hR
        have hris := (rising_any ka3 kc3 (ents.map Ent.key) wr hrow hkl)
        rw [HR.out, List.length_map] at hris
        simp only [List.length_map]
        cases R
        all_goals
          go_wp2_with (go_at_call 43; refine hris.mono ?_; rintro e w4 ⟨rfl, hb4⟩)
          all_goals go_ret
          all_goals refine ⟨ret_bool ?_, HBr.trans (hb4.mono (by omega))⟩
          all_goals simp only [hnm, hnb, hlo, HL.out, HR.out, HA2.out, Bool.true_and, Bool.false_and, Bool.and_false]
          all_goals (rw [Bool.eq_iff_iff]; simp <;> omega)

set_option maxRecDepth 100000 in
set_option maxHeartbeats 4000000 in
theorem ref_right_0 (kind : Int) (ver root next : Int) (ka ia ea : Option Addr) (kc ic ec : Nat) (data : ByteArray) (keys : List ByteArray) (kids : List Int) (ents : List Ent) (w : World) (k1 : kind ≠ 1) (k2 : kind ≠ 2) (k3 : kind ≠ 3) (k4 : kind ≠ 4) :
    Calls Try.prog 25 #[.agg #[.int .i64 kind, .int .i64 ver, .int .i64 root, .int .i64 next, .slice ka keys.length kc, .slice ia kids.length ic, .slice ea ents.length ec, .string data]] w fun e w' => e = .returned (.bool false) ∧ Below w.heap.size w w' := by
  have hb := (Below.refl w.heap.size w).alloc (Nat.le_refl _) (.cells #[.int .i64 kind, .int .i64 ver, .int .i64 root, .int .i64 next, .slice ka keys.length kc, .slice ia kids.length ic, .slice ea ents.length ec, .string data] 28)
  have b1 : (kind == 1) = false := beq_eq_false_iff_ne.2 k1
  have b2 : (kind == 2) = false := beq_eq_false_iff_ne.2 k2
  have b3 : (kind == 3) = false := beq_eq_false_iff_ne.2 k3
  have b4 : (kind == 4) = false := beq_eq_false_iff_ne.2 k4
  have c1 : (kind != 1) = true := bne_iff_ne.2 k1
  have c2 : (kind != 2) = true := bne_iff_ne.2 k2
  have c3 : (kind != 3) = true := bne_iff_ne.2 k3
  have c4 : (kind != 4) = true := bne_iff_ne.2 k4
  clear k1 k2 k3 k4
  go_enter Try.func25, Try.ntmps25
  go_upto_region 1 with fail
  go_cut [24] (fun s24 wx => s24 = .bool (!noMeta ver root) ∧ wx = (w.alloc (.cells #[.int .i64 kind, .int .i64 ver, .int .i64 root, .int .i64 next, .slice ka keys.length kc, .slice ia kids.length ic, .slice ea ents.length ec, .string data] 28)))
  case first =>
    cases hq : (ver == 0)
    · have hq' : (ver != 0) = true := by simp [bne, hq]
      go_wp2_with fail; go_meet; exact ⟨congrArg Value.bool (by simp only [noMeta, hq, Bool.false_and, Bool.not_false]), rfl⟩
    · have hq' : (ver != 0) = false := by simp [bne, hq]
      go_wp2_with fail; go_meet; exact ⟨congrArg Value.bool (by simp only [noMeta, hq, Bool.true_and, bne]), rfl⟩
  case rest =>
  obtain ⟨rfl, rfl⟩ := hcut
  cases hnm : noMeta ver root
  · go_wp2_with fail
    go_ret
    exact ⟨rfl, hb⟩
  go_upto_region 3 with fail
  go_cut [39] (fun s39 wx => s39 = .bool (!noBranch keys kids) ∧ wx = (w.alloc (.cells #[.int .i64 kind, .int .i64 ver, .int .i64 root, .int .i64 next, .slice ka keys.length kc, .slice ia kids.length ic, .slice ea ents.length ec, .string data] 28)))
  case first =>
    cases hq : decide (0 < keys.length)
    · go_wp2_with fail; go_meet; exact ⟨congrArg Value.bool (noBranch_kids hq).symm, rfl⟩
    · go_wp2_with fail; go_meet; exact ⟨congrArg Value.bool (noBranch_keys hq).symm, rfl⟩
  case rest =>
  obtain ⟨rfl, rfl⟩ := hcut
  cases hnb : noBranch keys kids
  · go_wp2_with fail
    go_ret
    exact ⟨rfl, hb⟩
  go_upto_region 5 with fail
  go_cut [63] (fun s63 wx => s63 = .bool (!(noLeaf ents && noOver next data)) ∧ wx = (w.alloc (.cells #[.int .i64 kind, .int .i64 ver, .int .i64 root, .int .i64 next, .slice ka keys.length kc, .slice ia kids.length ic, .slice ea ents.length ec, .string data] 28)))
  case first =>
    have hne := noLeaf_eq ents
    cases hq : decide (0 < ents.length)
    rotate_left
    · have hnl : noLeaf ents = false := by rw [hq] at hne; simpa using hne
      clear hne
      go_wp2_with fail; go_meet; exact ⟨congrArg Value.bool (by simp only [hnl, Bool.false_and, Bool.not_false]), rfl⟩
    · have hnl : noLeaf ents = true := by rw [hq] at hne; simpa using hne
      clear hne
      cases hq2 : (next == 0)
      · have hq' : (next != 0) = true := by simp [bne, hq2]
        go_wp2_with fail; go_meet; exact ⟨congrArg Value.bool (by simp only [hnl, noOver, hq2, Bool.false_and, Bool.and_false, Bool.not_false]), rfl⟩
      · have hq' : (next != 0) = false := by simp [bne, hq2]
        go_wp2_with fail; go_meet; exact ⟨congrArg Value.bool (by simp only [hnl, noOver, hq2, Bool.true_and]), rfl⟩
  case rest =>
  obtain ⟨rfl, rfl⟩ := hcut
  cases hlo : (noLeaf ents && noOver next data)
  · go_wp2_with fail
    go_ret
    exact ⟨rfl, hb⟩
  · go_wp2_with fail
    go_ret
    exact ⟨rfl, hb⟩

theorem ref_right_any (kind : Int) (ver root next : Int) (ka ia ea : Option Addr) (kc ic ec : Nat) (data : ByteArray) (keys : List ByteArray) (kids : List Int) (ents : List Ent) (w : World) (hK : RowAt w w.heap.size ka (keys.map .string)) (hI : RowAt w w.heap.size ia (kids.map (.int .i64))) (hE : RowAt w w.heap.size ea (ents.flatMap Ent.cells)) (hkn : keys.length ≤ 1073741824) (hin : kids.length ≤ 1073741824) (hen : ents.length ≤ 1073741824) :
    Calls Try.prog 25 #[.agg #[.int .i64 kind, .int .i64 ver, .int .i64 root, .int .i64 next, .slice ka keys.length kc, .slice ia kids.length ic, .slice ea ents.length ec, .string data]] w fun e w' => e = .returned (.bool (rightB kind ver root next keys kids ents data)) ∧ Below w.heap.size w w' := by
  by_cases k1 : kind = 1
  · subst k1
    simpa [rightB] using ref_right_1 ver root next ka ia ea kc ic ec data keys kids ents w hK hI hE hkn hin hen
  by_cases k2 : kind = 2
  · subst k2
    simpa [rightB] using ref_right_2 ver root next ka ia ea kc ic ec data keys kids ents w hK hI hE hkn hin hen
  by_cases k3 : kind = 3
  · subst k3
    simpa [rightB] using ref_right_3 ver root next ka ia ea kc ic ec data keys kids ents w hK hI hE hkn hin hen
  by_cases k4 : kind = 4
  · subst k4
    simpa [rightB] using ref_right_4 ver root next ka ia ea kc ic ec data keys kids ents w hK hI hE hkn hin hen
  · simpa [rightB, k1, k2, k3, k4] using ref_right_0 kind ver root next ka ia ea kc ic ec data keys kids ents w k1 k2 k3 k4
end Go.Proofs.Ytjmmfpolkkglaaa.Pages
