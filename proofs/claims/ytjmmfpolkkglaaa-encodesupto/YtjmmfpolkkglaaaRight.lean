/-
  What right and its parts answer: is a page right, but for its size?
-/
import Derived.Test.YtjmmfpolkkglaaaFields
namespace Go.Proofs.Ytjmmfpolkkglaaa.Pages
open Go.RowKit
set_option linter.unusedSimpArgs false

theorem all_no {α : Type} {p : α → Bool} {l : List α} {j : Nat} (h : j < l.length) (hp : p l[j] = false) : (l.drop j).all p = false := by
  rw [List.drop_eq_getElem_cons h, List.all_cons, hp]; rfl
theorem all_yes {α : Type} {p : α → Bool} {l : List α} {j : Nat} (h : j < l.length) (hp : p l[j] = true) : (l.drop j).all p = (l.drop (j + 1)).all p := by
  rw [List.drop_eq_getElem_cons h, List.all_cons, hp]; rfl
def metaB (ver root : Int) : Bool := decide (0 ≤ ver) && (root == 0 || placeB root)
def overB (next : Int) (data : ByteArray) : Bool := (next == 0 || placeB next) && (decide (1 ≤ data.size) && decide (data.size ≤ 240))
set_option maxHeartbeats 1000000 in
theorem rightMeta_any (kind : Int) (ver root next : Int) (ka ia ea : Option Addr) (kc ic ec : Nat) (data : ByteArray) (keys : List ByteArray) (kids : List Int) (ents : List Ent) (w : World) :
    Calls Try.prog 35 #[.agg #[.int .i64 kind, .int .i64 ver, .int .i64 root, .int .i64 next, .slice ka keys.length kc, .slice ia kids.length ic, .slice ea ents.length ec, .string data]] w fun e w' => e = .returned (.bool (metaB ver root)) ∧ Below w.heap.size w w' := by
  go_enter Try.func35, Try.ntmps35
  go_wp2_with (go_at_call 49; refine (isPlace_any _ _).mono ?_; rintro e w' ⟨rfl, rfl⟩)
  all_goals go_ret
  all_goals refine ⟨ret_bool ?_, (Below.refl _ _).alloc (Nat.le_refl _) _⟩
  all_goals simp_all [metaB, placeB_zero]
  all_goals omega
set_option maxHeartbeats 1000000 in
theorem rightOver_any (kind : Int) (ver root next : Int) (ka ia ea : Option Addr) (kc ic ec : Nat) (data : ByteArray) (keys : List ByteArray) (kids : List Int) (ents : List Ent) (w : World) :
    Calls Try.prog 38 #[.agg #[.int .i64 kind, .int .i64 ver, .int .i64 root, .int .i64 next, .slice ka keys.length kc, .slice ia kids.length ic, .slice ea ents.length ec, .string data]] w fun e w' => e = .returned (.bool (overB next data)) ∧ Below w.heap.size w w' := by
  go_enter Try.func38, Try.ntmps38
  go_wp2_with (go_at_call 49; refine (isPlace_any _ _).mono ?_; rintro e w' ⟨rfl, rfl⟩)
  all_goals go_ret
  all_goals refine ⟨ret_bool ?_, (Below.refl _ _).alloc (Nat.le_refl _) _⟩
  all_goals simp_all [overB, placeB_zero]
  all_goals first | omega | (rw [Bool.eq_iff_iff]; simp; omega)

def risingB : ByteArray → List ByteArray → Bool
  | _, [] => true
  | last, k :: r => followsB last k && risingB k r
def branchOk (keys : List ByteArray) (kids : List Int) : Bool := decide (keys.length ≠ 0) && decide (kids.length = keys.length + 1) && kids.all placeB && risingB ⟨#[]⟩ keys

set_option maxHeartbeats 1000000 in
theorem rightBranch_any (kind : Int) (ver root next : Int) (ka ia ea : Option Addr) (kc ic ec : Nat) (data : ByteArray) (keys : List ByteArray) (kids : List Int) (ents : List Ent) (w : World) (hK : RowAt w w.heap.size ka (keys.map .string)) (hI : RowAt w w.heap.size ia (kids.map (.int .i64))) (hkn : keys.length ≤ 1073741824) (hin : kids.length ≤ 1073741824) :
    Calls Try.prog 36 #[.agg #[.int .i64 kind, .int .i64 ver, .int .i64 root, .int .i64 next, .slice ka keys.length kc, .slice ia kids.length ic, .slice ea ents.length ec, .string data]] w fun e w' => e = .returned (.bool (branchOk keys kids)) ∧ Below w.heap.size w w' := by
  have hb := (Below.refl w.heap.size w).alloc (Nat.le_refl _) (.cells #[.int .i64 kind, .int .i64 ver, .int .i64 root, .int .i64 next, .slice ka keys.length kc, .slice ia kids.length ic, .slice ea ents.length ec, .string data] 28)
  by_cases h0 : keys.length = 0
  · have h0' : ((keys.length : Int) == 0) = true := beq_iff_eq.2 (by omega)
    have H0 : Hid (keys.length = 0) := h0
    clear h0
    go_enter Try.func36, Try.ntmps36
    go_wp2
    go_ret
    exact ⟨ret_bool (by simp [branchOk, H0.out]), hb⟩
  have h0' : ((keys.length : Int) == 0) = false := beq_eq_false_iff_ne.2 (by omega)
  by_cases h1 : kids.length = keys.length + 1
  · have h1' : ((kids.length : Int) != (keys.length : Int) + 1) = false := by simp; omega
    have H1 : Hid (kids.length = keys.length + 1) := h1
    clear h1
    go_enter Try.func36, Try.ntmps36
    go_wp2
    go_loop [25] (fun i => ∃ j : Nat, j ≤ kids.length ∧ i = .int .i64 j ∧ Hid (kids.all placeB = (kids.drop j).all placeB)) (fun i => kids.length - (intOf i).toNat)
    case atStart => exact ⟨0, Nat.zero_le _, rfl, by show _ = _; simp⟩
    case round =>
      obtain ⟨j, hj, rfl, HA⟩ := hrel
      by_cases hlt : j < kids.length
      · have hd := List.drop_eq_getElem_cons hlt
        obtain ⟨ib, io, hia, hib, hic⟩ := (hI.below hb).at hlt
        have hib' : ib < w.heap.size := hib
        subst hia
        cases hp : placeB kids[j]
        · have HN : Hid (kids.all placeB = false) := HA.out.trans (all_no hlt hp)
          clear HA hd hK hI
          go_wp2_with (go_at_call 49; refine (isPlace_any _ _).mono ?_; rintro e w' ⟨rfl, rfl⟩)
          go_ret
          exact ⟨ret_bool (by simp [branchOk, HN.out]), hb⟩
        · have HA2 : Hid (kids.all placeB = (kids.drop (j + 1)).all placeB) := HA.out.trans (all_yes hlt hp)
          clear HA hd hK hI
          go_wp2_with (go_at_call 49; refine (isPlace_any _ _).mono ?_; rintro e w' ⟨rfl, rfl⟩)
          go_round
          case rel => exact ⟨j + 1, by omega, by go_num, HA2⟩
          case measure => simp [intOf]; omega
      · have HA2 : Hid (kids.all placeB = true) := by show _ = _; rw [HA.out, List.drop_eq_nil_of_le (by omega)]; rfl
        clear HA
        go_wp2
        go_loop [5, 36] (fun u i => ∃ (j : Nat) (l : ByteArray), j ≤ keys.length ∧ i = .int .i64 j ∧ u = .string l ∧ Hid (risingB ⟨#[]⟩ keys = risingB l (keys.drop j))) (fun _ i => keys.length - (intOf i).toNat)
        case atStart => exact ⟨0, _, Nat.zero_le _, rfl, rfl, by show _ = _; simp⟩
        case round =>
          obtain ⟨j, l, hj, rfl, rfl, HR⟩ := hrel
          by_cases hlt : j < keys.length
          · have hd := List.drop_eq_getElem_cons hlt
            obtain ⟨kb, ko, hka, hkb, hkc⟩ := (hK.below hb).at hlt
            have hkb' : kb < w.heap.size := hkb
            subst hka
            cases hp : followsB l keys[j]
            · have HN : Hid (risingB ⟨#[]⟩ keys = false) := by show _ = _; rw [HR.out, hd]; simp [risingB, hp]
              clear HR hd hK hI
              go_wp2_with (go_at_call 50; refine (follows_any _ _ _).mono ?_; rintro e w' ⟨rfl, rfl⟩)
              go_ret
              exact ⟨ret_bool (by simp [branchOk, HN.out]), hb⟩
            · have HR2 : Hid (risingB ⟨#[]⟩ keys = risingB keys[j] (keys.drop (j + 1))) := by show _ = _; rw [HR.out, hd]; simp [risingB, hp]
              clear HR hd hK hI
              go_wp2_with (go_at_call 50; refine (follows_any _ _ _).mono ?_; rintro e w' ⟨rfl, rfl⟩)
              go_round
              case rel => exact ⟨j + 1, _, by omega, by go_num, rfl, HR2⟩
              case measure => simp [intOf]; omega
          · have HR2 : Hid (risingB ⟨#[]⟩ keys = true) := by show _ = _; rw [HR.out, List.drop_eq_nil_of_le (by omega)]; rfl
            clear HR
            go_wp2
            go_ret
            exact ⟨ret_bool (by simp [branchOk, HA2.out, HR2.out, H1.out, h0]), hb⟩
  · have h1' : ((kids.length : Int) != (keys.length : Int) + 1) = true := bne_iff_ne.2 (by omega)
    have H1 : Hid (¬ kids.length = keys.length + 1) := h1
    clear h1
    go_enter Try.func36, Try.ntmps36
    go_wp2
    go_ret
    exact ⟨ret_bool (by simp [branchOk, H1.out]), hb⟩

def leafOk : ByteArray → List Ent → Bool
  | _, [] => true
  | last, e :: r => followsB last e.key && valB e.val e.size e.over && leafOk e.key r
set_option maxHeartbeats 1000000 in
theorem rightLeaf_any (kind : Int) (ver root next : Int) (ka ia ea : Option Addr) (kc ic ec : Nat) (data : ByteArray) (keys : List ByteArray) (kids : List Int) (ents : List Ent) (w : World) (hE : RowAt w w.heap.size ea (ents.flatMap Ent.cells)) (hen : ents.length ≤ 1073741824) :
    Calls Try.prog 37 #[.agg #[.int .i64 kind, .int .i64 ver, .int .i64 root, .int .i64 next, .slice ka keys.length kc, .slice ia kids.length ic, .slice ea ents.length ec, .string data]] w fun e w' => e = .returned (.bool (decide (ents.length ≠ 0) && leafOk ⟨#[]⟩ ents)) ∧ Below w.heap.size w w' := by
  have hb := (Below.refl w.heap.size w).alloc (Nat.le_refl _) (.cells #[.int .i64 kind, .int .i64 ver, .int .i64 root, .int .i64 next, .slice ka keys.length kc, .slice ia kids.length ic, .slice ea ents.length ec, .string data] 28)
  by_cases h0 : ents.length = 0
  · have h0' : ((ents.length : Int) == 0) = true := beq_iff_eq.2 (by omega)
    have H0 : Hid (ents.length = 0) := h0
    clear h0
    go_enter Try.func37, Try.ntmps37
    go_wp2
    go_ret
    exact ⟨ret_bool (by simp [H0.out]), hb⟩
  have h0' : ((ents.length : Int) == 0) = false := beq_eq_false_iff_ne.2 (by omega)
  go_enter Try.func37, Try.ntmps37
  go_wp2
  go_loopw [3, 13] (fun u i wr => ∃ (j : Nat) (l : ByteArray), j ≤ ents.length ∧ i = .int .i64 j ∧ u = .string l ∧ Hid (leafOk ⟨#[]⟩ ents = leafOk l (ents.drop j)) ∧ Below w.heap.size w wr) (fun _ i _ => ents.length - (intOf i).toNat)
  case atStart => exact ⟨0, _, Nat.zero_le _, rfl, rfl, by show _ = _; simp, hb⟩
  case round =>
    obtain ⟨j, l, hj, rfl, rfl, HR, hbr⟩ := hrel
    have hsz := hbr.size
    by_cases hlt : j < ents.length
    · have hd := List.drop_eq_getElem_cons hlt
      obtain ⟨ib, io, hia, hib, d0, d1, d2, d3⟩ := (hE.below hbr).ent hlt
      have hib' : ib < w.heap.size := hib
      have hjw : j * 4 ≤ 4294967296 := by omega
      subst hia
      cases hp : followsB l ents[j].key
      · have HN : Hid (leafOk ⟨#[]⟩ ents = false) := by show _ = _; rw [HR.out, hd]; simp [leafOk, hp]
        clear HR hd hE
        go_wp2_with (go_at_call 50; refine (follows_any _ _ _).mono ?_; rintro e w' ⟨rfl, rfl⟩)
        go_ret
        exact ⟨ret_bool (by simp [HN.out]), hbr.alloc hsz _⟩
      · cases hq : valB ents[j].val ents[j].size ents[j].over
        · have HN : Hid (leafOk ⟨#[]⟩ ents = false) := by show _ = _; rw [HR.out, hd]; simp [leafOk, hq]
          clear HR hd hE
          go_wp2_with (first | (go_at_call 50; refine (follows_any _ _ _).mono ?_; rintro e w' ⟨rfl, rfl⟩) | (go_at_call 51; refine (rightValue_any _ _ _ _ _).mono ?_; rintro e w2 ⟨rfl, hb2⟩; obtain ⟨hc, hf⟩ := bcell hb2))
          go_ret
          exact ⟨ret_bool (by simp [HN.out]), (hbr.alloc hsz _).trans (hb2.mono (by simp; omega))⟩
        · have HR2 : Hid (leafOk ⟨#[]⟩ ents = leafOk ents[j].key (ents.drop (j + 1))) := by show _ = _; rw [HR.out, hd]; simp [leafOk, hp, hq]
          clear HR hd hE
          go_wp2_with (first | (go_at_call 50; refine (follows_any _ _ _).mono ?_; rintro e w' ⟨rfl, rfl⟩) | (go_at_call 51; refine (rightValue_any _ _ _ _ _).mono ?_; rintro e w2 ⟨rfl, hb2⟩; obtain ⟨hc, hf⟩ := bcell hb2))
          go_roundw
          case rel => exact ⟨j + 1, _, by omega, by go_num, rfl, HR2, (hbr.alloc hsz _).trans (hb2.mono (by simp; omega))⟩
          case measure => simp [intOf]; omega
    · have HR2 : Hid (leafOk ⟨#[]⟩ ents = true) := by show _ = _; rw [HR.out, List.drop_eq_nil_of_le (by omega)]; rfl
      clear HR
      go_wp2
      go_ret
      exact ⟨ret_bool (by simp [HR2.out, h0]), hbr⟩
end Go.Proofs.Ytjmmfpolkkglaaa.Pages
