/-
  Joined: Fore.
-/
import Derived.Test.YtngpplmndpmgiaaGreatJ55
import Derived.Test.YtngpplmndpmgiaaGreatJ14
namespace Go.Proofs.YtngpplmndpmgiaaGreat.Tree
open Go.RowKit Go.Proofs.YtngpplmndpmgiaaGreat.Pages
set_option linter.unusedSimpArgs false
set_option linter.unusedVariables false
def keyL : List ByteArray := [⟨#[0]⟩, ⟨#[97]⟩, ⟨#[97, 97]⟩, ⟨#[97, 98]⟩, ⟨#[98]⟩, ⟨#[107, 107, 107, 107, 107, 107, 107, 107, 107, 107, 107, 107, 107, 107, 107, 107, 107, 107, 107, 107, 107, 107, 107, 97]⟩, ⟨#[107, 107, 107, 107, 107, 107, 107, 107, 107, 107, 107, 107, 107, 107, 107, 107, 107, 107, 107, 107, 107, 107, 107, 98]⟩, ⟨#[107, 107, 107, 107, 107, 107, 107, 107, 107, 107, 107, 107, 107, 107, 107, 107, 107, 107, 107, 107, 107, 107, 107, 99]⟩, ⟨#[109]⟩, ⟨#[110]⟩, ⟨#[122]⟩, ⟨#[255]⟩]
theorem key_size : ∀ k ∈ keyL, 1 ≤ k.size ∧ k.size ≤ 24 := by decide
theorem key_lt : ∀ k ∈ keyL, lt ⟨#[]⟩ k = true := by decide +kernel
theorem kOk {n : Nat} (h1 : 120 ≤ n) (h2 : n ≤ 4096) : KOk keyL n := ⟨fun k hk => (key_size k hk).2, by decide, by omega, h2, by show 3 * (1 + 3 * 12) + 2 ≤ n; omega⟩
set_option maxRecDepth 100000 in
set_option maxHeartbeats 2000000 in
theorem key_any (k : Nat) (hk : k < 12) (w : World) :
    Calls Tryz.prog 22 #[.int .i64 (k : Nat)] w fun e w' => e = .returned (.string (keyL[k]'hk)) ∧ Below w.heap.size w w' := by
  obtain ⟨kk, hkk⟩ : ∃ kk, keyL[k]'hk = kk := ⟨_, rfl⟩
  have hx := heap_new w (.cells (keyL.map Value.string).toArray 9)
  have hc : (w.alloc (.cells (keyL.map Value.string).toArray 9)).cell? ⟨w.heap.size, k, none⟩ = some (.string kk) := by
    have hq : keyL[k]? = some kk := List.getElem?_eq_some_iff.2 ⟨hk, hkk⟩
    unfold World.cell?
    dsimp only
    rw [hx]
    simp [hq]
  have HB : Hid (Below w.heap.size w (w.alloc (.cells (keyL.map Value.string).toArray 9))) := (Below.refl _ _).alloc (Nat.le_refl _) _
  have hki : (k : Int) < 12 := by omega
  rw [hkk]
  clear hx hkk
  simp only [keyL, List.map_cons, List.map_nil] at hc HB
  go_enter Tryz.func22, Tryz.ntmps22
  go_wp2
  go_ret
  exact ⟨rfl, HB.out⟩
theorem key_at (k : Nat) (hk : k < 12) : keyL[k]'hk ∈ keyL := List.getElem_mem _
abbrev leafText : ByteArray := ⟨#[115, 111, 109, 101, 32, 118, 97, 108, 117, 101, 32, 116, 104, 97, 116, 32, 115, 116, 97, 110, 100, 115, 32, 105, 110, 32, 97, 32, 108, 101, 97, 102]⟩
theorem put_good (k : Nat) (hk : k < 12) (v : ByteArray) (hv : v.size ≤ 400) (g : Bool) : (⟨keyL[k]'hk, v, g⟩ : Ch).good := ⟨key_lt _ (key_at k hk), (key_size _ (key_at k hk)).2, hv⟩
theorem csOk_nil (K : List ByteArray) : CsOk K [] := ⟨.nil, by simp, by simp, by simp⟩
theorem OpenSt.step {K : List ByteArray} {n : Nat} {w wq w' : World} {D : Db} {j : Nat} {o ao : Option (Nat × T)} {x : Int} {cs : List Ch} (h : OpenSt K n w wq D j o ao x cs) (hb : Below wq.heap.size wq w') : OpenSt K n w w' D j o ao x cs :=
  ⟨h.db.on (On.of_below hb h.db.lies), h.well, h.failed, h.ver, h.root, h.aroot, h.last0, h.last1, h.store, h.new, h.below.trans (hb.mono h.below.size), h.busy⟩
theorem one_ok (k : Nat) (hk : k < 12) : CsOk keyL (withC [] ⟨keyL[k]'hk, leafText, false⟩) ∧ 0 < (withC [] ⟨keyL[k]'hk, leafText, false⟩).length ∧ (withC [] ⟨keyL[k]'hk, leafText, false⟩).length ≤ 1 := (csOk_nil keyL).with (by simp) _ (put_good k hk _ (by decide) _) (key_at k hk)
theorem two_ok {cs cs' : List Ch} (k : Nat) (hk : k < 12) {z : Int} {o : Option (Nat × T)} (h : CsOk keyL cs ∧ 0 < cs.length ∧ cs.length ≤ 1) (h' : (foundC o cs (keyL[k]'hk) = true ∧ z = 0 ∧ cs' = withC cs ⟨keyL[k]'hk, ⟨#[]⟩, true⟩) ∨ (foundC o cs (keyL[k]'hk) = false ∧ z = 5 ∧ cs' = cs)) : CsOk keyL cs' ∧ 0 < cs'.length := by
  rcases h' with ⟨_, _, rfl⟩ | ⟨_, _, rfl⟩
  · have := h.1.with (by omega) ⟨keyL[k]'hk, ⟨#[]⟩, true⟩ (put_good k hk _ (by decide) _) (key_at k hk)
    exact ⟨this.1, this.2.1⟩
  · exact ⟨h.1, h.2.1⟩
def pickV (c n : Int) : Int := if c < 0 then (-(c + 1)) % n else c % n
theorem pickV_range (c n : Int) (hn : 0 < n) : 0 ≤ pickV c n ∧ pickV c n < n := by
  unfold pickV
  split
  · exact ⟨Int.emod_nonneg _ (by omega), Int.emod_lt_of_pos _ hn⟩
  · exact ⟨Int.emod_nonneg _ (by omega), Int.emod_lt_of_pos _ hn⟩
theorem pick_val (c n : Int) (w : World) (h0 : -9223372036854775808 ≤ c) (h1 : c ≤ 9223372036854775807) (hn : 0 < n) :
    Calls Tryz.prog 20 #[.int .i64 c, .int .i64 n] w fun e w' => e = .returned (.int .i64 (pickV c n)) ∧ w' = w := by
  have hn0 : n ≠ 0 := by omega
  by_cases hc : c < 0
  · go_enter Tryz.func20, Tryz.ntmps20
    go_wp2
    go_ret
    have e : -((c + 1).tmod n) = (-(c + 1)) % n := by rw [← Int.neg_tmod, Int.tmod_eq_emod_of_nonneg (by omega)]
    exact ⟨by rw [e, pickV, if_pos hc]; rfl, rfl⟩
  · go_enter Tryz.func20, Tryz.ntmps20
    go_wp2
    go_ret
    exact ⟨by rw [pickV, if_neg (by omega)]; rfl, rfl⟩
def LSt (K : List ByteArray) (n : Nat) (w wq : World) (d b j : Nat) (o ao : Option (Nat × T)) : Prop := ∃ D, LawSt K n w wq D j o ao ∧ Idle D ∧ D.d = d ∧ D.β = b
def OSt (K : List ByteArray) (n : Nat) (w wq : World) (d b j : Nat) (o ao : Option (Nat × T)) (x : Int) (cs : List Ch) : Prop := ∃ D, OpenSt K n w wq D j o ao x cs ∧ D.d = d ∧ D.β = b
theorem OSt.step {K : List ByteArray} {n : Nat} {w wq w' : World} {d b j : Nat} {o ao : Option (Nat × T)} {x : Int} {cs : List Ch} (h : OSt K n w wq d b j o ao x cs) (hb : Below wq.heap.size wq w') : OSt K n w w' d b j o ao x cs := by
  obtain ⟨D, h, h1, h2⟩ := h
  exact ⟨D, h.step hb, h1, h2⟩
theorem begin_l {K : List ByteArray} {n : Nat} {w wq : World} {d b j : Nat} {o ao : Option (Nat × T)} (h : LSt K n w wq d b j o ao) (hj : j ≤ 1000000) :
    Calls Tryz.prog 16 #[.pointer (some ⟨d, 0, none⟩), .bool true] wq fun e w' => ∃ x, e = .returned (.tuple #[.int .i64 x, .int .i64 0]) ∧ OSt K n w w' d b j o ao x [] := by
  obtain ⟨D, h, hi, rfl, rfl⟩ := h
  refine (begin_st h hi hj).mono ?_
  rintro e w' ⟨rfl, D1, h1, h2, h3⟩
  exact ⟨_, rfl, D1, h1, h2, h3⟩
theorem put_l {K : List ByteArray} {n : Nat} {w wq : World} {d b j : Nat} {o ao : Option (Nat × T)} {x : Int} {cs : List Ch} (h : OSt K n w wq d b j o ao x cs) (key val : ByteArray) (hr : Rise cs) (hn : cs.length ≤ 1000) (hk1 : 1 ≤ key.size) (hk2 : key.size ≤ 24) (hv : val.size ≤ 400) :
    Calls Tryz.prog 21 #[.pointer (some ⟨d, 0, none⟩), .int .i64 x, .string key, .string val] wq fun e w' => e = .returned (.int .i64 0) ∧ OSt K n w w' d b j o ao x (withC cs ⟨key, val, false⟩) := by
  obtain ⟨D, h, rfl, rfl⟩ := h
  refine (put_st h key val hr hn hk1 hk2 hv).mono ?_
  rintro e w' ⟨rfl, D1, h1, h2, h3⟩
  exact ⟨rfl, D1, h1, h2, h3⟩
theorem del_l {K : List ByteArray} {n : Nat} {w wq : World} {d b j : Nat} {o ao : Option (Nat × T)} {x : Int} {cs : List Ch} (h : OSt K n w wq d b j o ao x cs) (key : ByteArray) (hr : Rise cs) (hn : cs.length ≤ 1000) (hk1 : 1 ≤ key.size) (hk2 : key.size ≤ 24) :
    Calls Tryz.prog 23 #[.pointer (some ⟨d, 0, none⟩), .int .i64 x, .string key] wq fun e w' => ∃ z cs', e = .returned (.int .i64 z) ∧ OSt K n w w' d b j o ao x cs' ∧ ((foundC o cs key = true ∧ z = 0 ∧ cs' = withC cs ⟨key, ⟨#[]⟩, true⟩) ∨ (foundC o cs key = false ∧ z = 5 ∧ cs' = cs)) := by
  obtain ⟨D, h, rfl, rfl⟩ := h
  refine (del_st h key hr hn hk1 hk2).mono ?_
  rintro e w' ⟨z, D1, cs', rfl, h1, h2, h3, h4⟩
  exact ⟨z, cs', rfl, ⟨D1, h1, h2, h3⟩, h4⟩
theorem com_l {K : List ByteArray} {n : Nat} (hK : KOk K n) {w wq : World} {d b j : Nat} {o ao : Option (Nat × T)} {x : Int} {cs : List Ch} (h : OSt K n w wq d b j o ao x cs) (hc : CsOk K cs) (hne : 0 < cs.length) (hj : j ≤ 1000000) :
    Calls Tryz.prog 24 #[.pointer (some ⟨d, 0, none⟩), .int .i64 x] wq fun e w' => e = .returned (.int .i64 0) ∧ ∃ o1, LSt K n w w' d b (j + 1) o1 o ∧ (oents o1).map En.kv = (overE (oents o) cs).map En.kv := by
  obtain ⟨D, h, rfl, rfl⟩ := h
  refine (com_st hK h hc hne hj).mono ?_
  rintro e w' ⟨rfl, D1, o1, h1, h2, h3, h4, h5⟩
  exact ⟨rfl, o1, ⟨D1, h1, h2, h3, h4⟩, h5⟩
theorem ver_l {K : List ByteArray} {n : Nat} {w wq : World} {d b j : Nat} {o ao : Option (Nat × T)} (h : LSt K n w wq d b j o ao) :
    Calls Tryz.prog 15 #[.pointer (some ⟨d, 0, none⟩)] wq fun e w' => e = .returned (.int .i64 (j : Nat)) ∧ LSt K n w w' d b j o ao := by
  obtain ⟨D, h, hi, rfl, rfl⟩ := h
  refine (ver_st h).mono ?_
  rintro e w' ⟨rfl, h1⟩
  exact ⟨rfl, D, h1, hi, rfl, rfl⟩
def FSt (K : List ByteArray) (n : Nat) (w wq : World) (b j : Nat) (o ao : Option (Nat × T)) : Prop := ∃ sv lv fs, FileSt w wq b sv lv fs ∧ Store K n fs j o ao ∧ fs.well
theorem copy_l {K : List ByteArray} {n : Nat} {w wq : World} {d b j : Nat} {o ao : Option (Nat × T)} (h : LSt K n w wq d b j o ao) :
    Calls Tryz.prog 12 #[.pointer (some ⟨b, 0, none⟩)] wq fun e w' => ∃ b', e = .returned (.pointer (some ⟨b', 0, none⟩)) ∧ FSt K n w w' b' j o ao := by
  obtain ⟨D, h, hi, rfl, rfl⟩ := h
  refine (copy_st h.db.file h.below).mono ?_
  rintro e w' ⟨b', sv, lv, rfl, hf⟩
  exact ⟨b', rfl, sv, lv, _, hf, h.store, h.well⟩
theorem open_l {K : List ByteArray} {n : Nat} {w wq : World} {b j : Nat} {o ao : Option (Nat × T)} (h : FSt K n w wq b j o ao) (hn : 40 ≤ n) :
    Calls Tryz.prog 14 #[.pointer (some ⟨b, 0, none⟩)] wq fun e w' => ∃ d, e = .returned (.tuple #[.pointer (some ⟨d, 0, none⟩), .int .i64 0]) ∧ LSt K n w w' d b j o ao := by
  obtain ⟨sv, lv, fs, hf, hS, hw⟩ := h
  refine (open_st hf hS hw hn).mono ?_
  rintro e w' ⟨D, rfl, h1, h2, h3⟩
  exact ⟨_, rfl, D, h1, h2, rfl, h3⟩
set_option maxRecDepth 100000 in
set_option maxHeartbeats 8000000 in
theorem forever_walk (ra : Option Addr) (rc : Nat) (raw : List Int) (w : World) (hR : RowAt w w.heap.size ra (raw.map (.int .i64))) (hi64 : ∀ x ∈ raw, -9223372036854775808 ≤ x ∧ x ≤ 9223372036854775807) (hn : raw.length ≤ 9223372036854775807) :
    Calls Tryz.prog 6 #[.slice ra raw.length rc] w fun e w' => e = .returned (.bool true) ∧ Below w.heap.size w w' := by
  have hFr := fresh_st (K := keyL) (n := 120) (by omega) (by omega) w
  go_enter Tryz.func6, Tryz.ntmps6
  go_wp2_with (go_at_call 8; (with_reducible refine Calls.mono hFr ?_); rintro e X0 ⟨D0, rfl, hL0, hI0⟩)
  clear hFr
  go_loopw [3, 4, 5, 6] (fun p f nn i wq => ∃ (j d b : Nat) (o ao : Option (Nat × T)), p = .pointer (some ⟨d, 0, none⟩) ∧ f = .pointer (some ⟨b, 0, none⟩) ∧ nn = .int .i64 (j : Nat) ∧ i = .int .i64 (j : Nat) ∧ j ≤ 80 ∧ Hid (LSt keyL 120 w wq d b j o ao)) (fun _ _ _ i _ => 80 - (intOf i).toNat)
  case atStart => exact ⟨0, D0.d, D0.β, none, none, rfl, rfl, rfl, rfl, by omega, D0, hL0, hI0, rfl, rfl⟩
  case round =>
    clear hL0 hI0
    rename World => wr
    obtain ⟨j, d, b, o, ao, rfl, rfl, rfl, rfl, hj, HL⟩ := hrel
    by_cases hlt : j < 80
    · have hlti : (j : Int) < 80 := by omega
      have hBe := begin_l HL.out (by omega)
      have HK1 : Hid (∀ (c : Nat) X, Calls Tryz.prog 22 #[.int .i64 ((c : Int) % 12)] X fun e w' => e = .returned (.string (keyL[c % 12]'(Nat.mod_lt _ (by decide)))) ∧ Below X.heap.size X w') := fun c X => by
        have := key_any (c % 12) (Nat.mod_lt _ (by decide)) X
        rw [show ((c % 12 : Nat) : Int) = (c : Int) % 12 by simp] at this
        exact this
      have HK2 : Hid (∀ (c : Nat) X, Calls Tryz.prog 22 #[.int .i64 ((c : Int) / 12 % 12)] X fun e w' => e = .returned (.string (keyL[c / 12 % 12]'(Nat.mod_lt _ (by decide)))) ∧ Below X.heap.size X w') := fun c X => by
        have := key_any (c / 12 % 12) (Nat.mod_lt _ (by decide)) X
        rw [show ((c / 12 % 12 : Nat) : Int) = (c : Int) / 12 % 12 by simp] at this
        exact this
      by_cases hr : j < raw.length
      · have hri : (j : Int) < (raw.length : Int) := by omega
        obtain ⟨y, hy⟩ : ∃ y, raw[j]'hr = y := ⟨_, rfl⟩
        have hyr := hi64 y (hy ▸ List.getElem_mem hr)
        obtain ⟨c, hc⟩ : ∃ c : Nat, pickV y 1099511627776 = c := ⟨(pickV y 1099511627776).toNat, (Int.toNat_of_nonneg (pickV_range y 1099511627776 (by omega)).1).symm⟩
        have hc1 : (c : Int) ≤ 9223372036854775807 := by have := (pickV_range y 1099511627776 (by omega)).2; omega
        have HPk : Hid (Calls Tryz.prog 20 #[.int .i64 y, .int .i64 1099511627776] wr fun e w' => e = .returned (.int .i64 c) ∧ w' = wr) := hc ▸ pick_val y 1099511627776 wr hyr.1 hyr.2 (by omega)
        rcases hR with hR | ⟨rb, off, rfl, hrb, hRc⟩
        · have h0 : (raw.map (Value.int .i64)).length = 0 := by rw [hR]; rfl
          rw [List.length_map] at h0
          omega
        have hcell : wr.cell? ⟨rb, off + j, none⟩ = some (.int .i64 y) := by
          rw [(HL.out.choose_spec.1.below).cell (p := ⟨rb, off + j, none⟩) hrb]
          exact hRc j _ (by rw [List.getElem?_map, List.getElem?_eq_getElem hr, hy]; rfl)
        clear hy hyr hc hRc hi64 hr
        by_cases h3 : c % 3 = 0
        · have h3i : ((c : Int) % 3 = 0) := by omega
          by_cases h17 : c % 17 = 0
          · have h17i : ((c : Int) % 17 = 0) := by omega
            clear h17 h3
            go_wp2_with (first
              | (go_at_call 20; (with_reducible refine Calls.mono HPk.out ?_); rintro e X0 ⟨rfl, rfl⟩)
              | (go_at_call 16; (with_reducible refine Calls.mono hBe ?_); rintro e X1 ⟨x, rfl, hO1⟩; have hKa := HK1.out c X1)
              | (go_at_call 22; (with_reducible refine Calls.mono hKa ?_); rintro e X2 ⟨rfl, hX2⟩; have hPu := put_l (hO1.step hX2) (keyL[c % 12]'(Nat.mod_lt _ (by decide))) leafText .nil (by simp) (key_size _ (key_at _ _)).1 (key_size _ (key_at _ _)).2 (by decide); clear hKa hBe hO1 hX2)
              | (go_at_call 21; (with_reducible refine Calls.mono hPu ?_); rintro e X3 ⟨rfl, hO3⟩; have hKb := HK2.out c X3; clear hPu)
              | (go_at_call 22; (with_reducible refine Calls.mono hKb ?_); rintro e X4 ⟨rfl, hX4⟩; have hone := one_ok (c % 12) (Nat.mod_lt _ (by decide)); have hDe := del_l (hO3.step hX4) (keyL[c / 12 % 12]'(Nat.mod_lt _ (by decide))) hone.1.rise hone.1.len (key_size _ (key_at _ _)).1 (key_size _ (key_at _ _)).2; clear hKb hO3 hX4)
              | (go_at_call 23; (with_reducible refine Calls.mono hDe ?_); rintro e X5 ⟨z, cs', rfl, hO5, hor⟩; have htwo := two_ok (c / 12 % 12) (Nat.mod_lt _ (by decide)) hone hor; have hCm := com_l (kOk (n := 120) (by omega) (by omega)) hO5 htwo.1 htwo.2 (by omega); clear hDe hO5 hor htwo)
              | (go_at_call 24; (with_reducible refine Calls.mono hCm ?_); rintro e X6 ⟨rfl, o1, hL4, _⟩; have hCp := copy_l hL4; clear hCm hL4 hone)
              | (go_at_call 12; (with_reducible refine Calls.mono hCp ?_); rintro e X7 ⟨b1, rfl, hf7⟩; have hOp := open_l hf7 (by omega); clear hCp hf7)
              | (go_at_call 14; (with_reducible refine Calls.mono hOp ?_); rintro e X8 ⟨d1, rfl, hL5⟩; have hVe := ver_l hL5; clear hOp hL5)
              | (go_at_call 15; (with_reducible refine Calls.mono hVe ?_); rintro e X9 ⟨rfl, hL9⟩; clear hVe; have HL9 : Hid _ := hL9; clear hL9))
            go_roundw
            case rel => exact ⟨j + 1, d1, b1, o1, o, rfl, rfl, by simp, by simp, by omega, HL9⟩
            case measure => simp only [intOf]; omega
          · have h17i : ¬ ((c : Int) % 17 = 0) := by omega
            clear h17 h3
            go_wp2_with (first
              | (go_at_call 20; (with_reducible refine Calls.mono HPk.out ?_); rintro e X0 ⟨rfl, rfl⟩)
              | (go_at_call 16; (with_reducible refine Calls.mono hBe ?_); rintro e X1 ⟨x, rfl, hO1⟩; have hKa := HK1.out c X1)
              | (go_at_call 22; (with_reducible refine Calls.mono hKa ?_); rintro e X2 ⟨rfl, hX2⟩; have hPu := put_l (hO1.step hX2) (keyL[c % 12]'(Nat.mod_lt _ (by decide))) leafText .nil (by simp) (key_size _ (key_at _ _)).1 (key_size _ (key_at _ _)).2 (by decide); clear hKa hBe hO1 hX2)
              | (go_at_call 21; (with_reducible refine Calls.mono hPu ?_); rintro e X3 ⟨rfl, hO3⟩; have hKb := HK2.out c X3; clear hPu)
              | (go_at_call 22; (with_reducible refine Calls.mono hKb ?_); rintro e X4 ⟨rfl, hX4⟩; have hone := one_ok (c % 12) (Nat.mod_lt _ (by decide)); have hDe := del_l (hO3.step hX4) (keyL[c / 12 % 12]'(Nat.mod_lt _ (by decide))) hone.1.rise hone.1.len (key_size _ (key_at _ _)).1 (key_size _ (key_at _ _)).2; clear hKb hO3 hX4)
              | (go_at_call 23; (with_reducible refine Calls.mono hDe ?_); rintro e X5 ⟨z, cs', rfl, hO5, hor⟩; have htwo := two_ok (c / 12 % 12) (Nat.mod_lt _ (by decide)) hone hor; have hCm := com_l (kOk (n := 120) (by omega) (by omega)) hO5 htwo.1 htwo.2 (by omega); clear hDe hO5 hor htwo)
              | (go_at_call 24; (with_reducible refine Calls.mono hCm ?_); rintro e X6 ⟨rfl, o1, hL4, _⟩; have hVe := ver_l hL4; clear hCm hL4 hone)
              | (go_at_call 15; (with_reducible refine Calls.mono hVe ?_); rintro e X9 ⟨rfl, hL9⟩; clear hVe; have HL9 : Hid _ := hL9; clear hL9))
            go_roundw
            case rel => exact ⟨j + 1, d, b, o1, o, rfl, rfl, by simp, by simp, by omega, HL9⟩
            case measure => simp only [intOf]; omega
        · have h3i : ¬ ((c : Int) % 3 = 0) := by omega
          by_cases h17 : c % 17 = 0
          · have h17i : ((c : Int) % 17 = 0) := by omega
            clear h17 h3
            go_wp2_with (first
              | (go_at_call 20; (with_reducible refine Calls.mono HPk.out ?_); rintro e X0 ⟨rfl, rfl⟩)
              | (go_at_call 16; (with_reducible refine Calls.mono hBe ?_); rintro e X1 ⟨x, rfl, hO1⟩; have hKa := HK1.out c X1)
              | (go_at_call 22; (with_reducible refine Calls.mono hKa ?_); rintro e X2 ⟨rfl, hX2⟩; have hPu := put_l (hO1.step hX2) (keyL[c % 12]'(Nat.mod_lt _ (by decide))) leafText .nil (by simp) (key_size _ (key_at _ _)).1 (key_size _ (key_at _ _)).2 (by decide); clear hKa hBe hO1 hX2)
              | (go_at_call 21; (with_reducible refine Calls.mono hPu ?_); rintro e X3 ⟨rfl, hO3⟩; have hone := one_ok (c % 12) (Nat.mod_lt _ (by decide)); have hCm := com_l (kOk (n := 120) (by omega) (by omega)) hO3 hone.1 hone.2.1 (by omega); clear hPu hO3)
              | (go_at_call 24; (with_reducible refine Calls.mono hCm ?_); rintro e X6 ⟨rfl, o1, hL4, _⟩; have hCp := copy_l hL4; clear hCm hL4 hone)
              | (go_at_call 12; (with_reducible refine Calls.mono hCp ?_); rintro e X7 ⟨b1, rfl, hf7⟩; have hOp := open_l hf7 (by omega); clear hCp hf7)
              | (go_at_call 14; (with_reducible refine Calls.mono hOp ?_); rintro e X8 ⟨d1, rfl, hL5⟩; have hVe := ver_l hL5; clear hOp hL5)
              | (go_at_call 15; (with_reducible refine Calls.mono hVe ?_); rintro e X9 ⟨rfl, hL9⟩; clear hVe; have HL9 : Hid _ := hL9; clear hL9))
            go_roundw
            case rel => exact ⟨j + 1, d1, b1, o1, o, rfl, rfl, by simp, by simp, by omega, HL9⟩
            case measure => simp only [intOf]; omega
          · have h17i : ¬ ((c : Int) % 17 = 0) := by omega
            clear h17 h3
            go_wp2_with (first
              | (go_at_call 20; (with_reducible refine Calls.mono HPk.out ?_); rintro e X0 ⟨rfl, rfl⟩)
              | (go_at_call 16; (with_reducible refine Calls.mono hBe ?_); rintro e X1 ⟨x, rfl, hO1⟩; have hKa := HK1.out c X1)
              | (go_at_call 22; (with_reducible refine Calls.mono hKa ?_); rintro e X2 ⟨rfl, hX2⟩; have hPu := put_l (hO1.step hX2) (keyL[c % 12]'(Nat.mod_lt _ (by decide))) leafText .nil (by simp) (key_size _ (key_at _ _)).1 (key_size _ (key_at _ _)).2 (by decide); clear hKa hBe hO1 hX2)
              | (go_at_call 21; (with_reducible refine Calls.mono hPu ?_); rintro e X3 ⟨rfl, hO3⟩; have hone := one_ok (c % 12) (Nat.mod_lt _ (by decide)); have hCm := com_l (kOk (n := 120) (by omega) (by omega)) hO3 hone.1 hone.2.1 (by omega); clear hPu hO3)
              | (go_at_call 24; (with_reducible refine Calls.mono hCm ?_); rintro e X6 ⟨rfl, o1, hL4, _⟩; have hVe := ver_l hL4; clear hCm hL4 hone)
              | (go_at_call 15; (with_reducible refine Calls.mono hVe ?_); rintro e X9 ⟨rfl, hL9⟩; clear hVe; have HL9 : Hid _ := hL9; clear hL9))
            go_roundw
            case rel => exact ⟨j + 1, d, b, o1, o, rfl, rfl, by simp, by simp, by omega, HL9⟩
            case measure => simp only [intOf]; omega
      · have hri : ¬ (j : Int) < (raw.length : Int) := by omega
        clear hr
        by_cases h3 : j % 3 = 0
        · have h3i : ((j : Int) % 3 = 0) := by omega
          by_cases h17 : j % 17 = 0
          · have h17i : ((j : Int) % 17 = 0) := by omega
            clear h17 h3
            go_wp2_with (first
              | (go_at_call 16; (with_reducible refine Calls.mono hBe ?_); rintro e X1 ⟨x, rfl, hO1⟩; have hKa := HK1.out j X1)
              | (go_at_call 22; (with_reducible refine Calls.mono hKa ?_); rintro e X2 ⟨rfl, hX2⟩; have hPu := put_l (hO1.step hX2) (keyL[j % 12]'(Nat.mod_lt _ (by decide))) leafText .nil (by simp) (key_size _ (key_at _ _)).1 (key_size _ (key_at _ _)).2 (by decide); clear hKa hBe hO1 hX2)
              | (go_at_call 21; (with_reducible refine Calls.mono hPu ?_); rintro e X3 ⟨rfl, hO3⟩; have hKb := HK2.out j X3; clear hPu)
              | (go_at_call 22; (with_reducible refine Calls.mono hKb ?_); rintro e X4 ⟨rfl, hX4⟩; have hone := one_ok (j % 12) (Nat.mod_lt _ (by decide)); have hDe := del_l (hO3.step hX4) (keyL[j / 12 % 12]'(Nat.mod_lt _ (by decide))) hone.1.rise hone.1.len (key_size _ (key_at _ _)).1 (key_size _ (key_at _ _)).2; clear hKb hO3 hX4)
              | (go_at_call 23; (with_reducible refine Calls.mono hDe ?_); rintro e X5 ⟨z, cs', rfl, hO5, hor⟩; have htwo := two_ok (j / 12 % 12) (Nat.mod_lt _ (by decide)) hone hor; have hCm := com_l (kOk (n := 120) (by omega) (by omega)) hO5 htwo.1 htwo.2 (by omega); clear hDe hO5 hor htwo)
              | (go_at_call 24; (with_reducible refine Calls.mono hCm ?_); rintro e X6 ⟨rfl, o1, hL4, _⟩; have hCp := copy_l hL4; clear hCm hL4 hone)
              | (go_at_call 12; (with_reducible refine Calls.mono hCp ?_); rintro e X7 ⟨b1, rfl, hf7⟩; have hOp := open_l hf7 (by omega); clear hCp hf7)
              | (go_at_call 14; (with_reducible refine Calls.mono hOp ?_); rintro e X8 ⟨d1, rfl, hL5⟩; have hVe := ver_l hL5; clear hOp hL5)
              | (go_at_call 15; (with_reducible refine Calls.mono hVe ?_); rintro e X9 ⟨rfl, hL9⟩; clear hVe; have HL9 : Hid _ := hL9; clear hL9))
            go_roundw
            case rel => exact ⟨j + 1, d1, b1, o1, o, rfl, rfl, by simp, by simp, by omega, HL9⟩
            case measure => simp only [intOf]; omega
          · have h17i : ¬ ((j : Int) % 17 = 0) := by omega
            clear h17 h3
            go_wp2_with (first
              | (go_at_call 16; (with_reducible refine Calls.mono hBe ?_); rintro e X1 ⟨x, rfl, hO1⟩; have hKa := HK1.out j X1)
              | (go_at_call 22; (with_reducible refine Calls.mono hKa ?_); rintro e X2 ⟨rfl, hX2⟩; have hPu := put_l (hO1.step hX2) (keyL[j % 12]'(Nat.mod_lt _ (by decide))) leafText .nil (by simp) (key_size _ (key_at _ _)).1 (key_size _ (key_at _ _)).2 (by decide); clear hKa hBe hO1 hX2)
              | (go_at_call 21; (with_reducible refine Calls.mono hPu ?_); rintro e X3 ⟨rfl, hO3⟩; have hKb := HK2.out j X3; clear hPu)
              | (go_at_call 22; (with_reducible refine Calls.mono hKb ?_); rintro e X4 ⟨rfl, hX4⟩; have hone := one_ok (j % 12) (Nat.mod_lt _ (by decide)); have hDe := del_l (hO3.step hX4) (keyL[j / 12 % 12]'(Nat.mod_lt _ (by decide))) hone.1.rise hone.1.len (key_size _ (key_at _ _)).1 (key_size _ (key_at _ _)).2; clear hKb hO3 hX4)
              | (go_at_call 23; (with_reducible refine Calls.mono hDe ?_); rintro e X5 ⟨z, cs', rfl, hO5, hor⟩; have htwo := two_ok (j / 12 % 12) (Nat.mod_lt _ (by decide)) hone hor; have hCm := com_l (kOk (n := 120) (by omega) (by omega)) hO5 htwo.1 htwo.2 (by omega); clear hDe hO5 hor htwo)
              | (go_at_call 24; (with_reducible refine Calls.mono hCm ?_); rintro e X6 ⟨rfl, o1, hL4, _⟩; have hVe := ver_l hL4; clear hCm hL4 hone)
              | (go_at_call 15; (with_reducible refine Calls.mono hVe ?_); rintro e X9 ⟨rfl, hL9⟩; clear hVe; have HL9 : Hid _ := hL9; clear hL9))
            go_roundw
            case rel => exact ⟨j + 1, d, b, o1, o, rfl, rfl, by simp, by simp, by omega, HL9⟩
            case measure => simp only [intOf]; omega
        · have h3i : ¬ ((j : Int) % 3 = 0) := by omega
          by_cases h17 : j % 17 = 0
          · have h17i : ((j : Int) % 17 = 0) := by omega
            clear h17 h3
            go_wp2_with (first
              | (go_at_call 16; (with_reducible refine Calls.mono hBe ?_); rintro e X1 ⟨x, rfl, hO1⟩; have hKa := HK1.out j X1)
              | (go_at_call 22; (with_reducible refine Calls.mono hKa ?_); rintro e X2 ⟨rfl, hX2⟩; have hPu := put_l (hO1.step hX2) (keyL[j % 12]'(Nat.mod_lt _ (by decide))) leafText .nil (by simp) (key_size _ (key_at _ _)).1 (key_size _ (key_at _ _)).2 (by decide); clear hKa hBe hO1 hX2)
              | (go_at_call 21; (with_reducible refine Calls.mono hPu ?_); rintro e X3 ⟨rfl, hO3⟩; have hone := one_ok (j % 12) (Nat.mod_lt _ (by decide)); have hCm := com_l (kOk (n := 120) (by omega) (by omega)) hO3 hone.1 hone.2.1 (by omega); clear hPu hO3)
              | (go_at_call 24; (with_reducible refine Calls.mono hCm ?_); rintro e X6 ⟨rfl, o1, hL4, _⟩; have hCp := copy_l hL4; clear hCm hL4 hone)
              | (go_at_call 12; (with_reducible refine Calls.mono hCp ?_); rintro e X7 ⟨b1, rfl, hf7⟩; have hOp := open_l hf7 (by omega); clear hCp hf7)
              | (go_at_call 14; (with_reducible refine Calls.mono hOp ?_); rintro e X8 ⟨d1, rfl, hL5⟩; have hVe := ver_l hL5; clear hOp hL5)
              | (go_at_call 15; (with_reducible refine Calls.mono hVe ?_); rintro e X9 ⟨rfl, hL9⟩; clear hVe; have HL9 : Hid _ := hL9; clear hL9))
            go_roundw
            case rel => exact ⟨j + 1, d1, b1, o1, o, rfl, rfl, by simp, by simp, by omega, HL9⟩
            case measure => simp only [intOf]; omega
          · have h17i : ¬ ((j : Int) % 17 = 0) := by omega
            clear h17 h3
            go_wp2_with (first
              | (go_at_call 16; (with_reducible refine Calls.mono hBe ?_); rintro e X1 ⟨x, rfl, hO1⟩; have hKa := HK1.out j X1)
              | (go_at_call 22; (with_reducible refine Calls.mono hKa ?_); rintro e X2 ⟨rfl, hX2⟩; have hPu := put_l (hO1.step hX2) (keyL[j % 12]'(Nat.mod_lt _ (by decide))) leafText .nil (by simp) (key_size _ (key_at _ _)).1 (key_size _ (key_at _ _)).2 (by decide); clear hKa hBe hO1 hX2)
              | (go_at_call 21; (with_reducible refine Calls.mono hPu ?_); rintro e X3 ⟨rfl, hO3⟩; have hone := one_ok (j % 12) (Nat.mod_lt _ (by decide)); have hCm := com_l (kOk (n := 120) (by omega) (by omega)) hO3 hone.1 hone.2.1 (by omega); clear hPu hO3)
              | (go_at_call 24; (with_reducible refine Calls.mono hCm ?_); rintro e X6 ⟨rfl, o1, hL4, _⟩; have hVe := ver_l hL4; clear hCm hL4 hone)
              | (go_at_call 15; (with_reducible refine Calls.mono hVe ?_); rintro e X9 ⟨rfl, hL9⟩; clear hVe; have HL9 : Hid _ := hL9; clear hL9))
            go_roundw
            case rel => exact ⟨j + 1, d, b, o1, o, rfl, rfl, by simp, by simp, by omega, HL9⟩
            case measure => simp only [intOf]; omega
    · have hlti : ¬ (j : Int) < 80 := by omega
      have hB : Below w.heap.size w _ := HL.out.choose_spec.1.below
      go_wp2
      go_ret
      exact ⟨rfl, hB⟩
end Go.Proofs.YtngpplmndpmgiaaGreat.Tree
