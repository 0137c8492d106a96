/-
  A reader in memory: what next and number leave and answer.
-/
import Derived.Test.YtjmmfpolkkglaaaBuf
import Derived.Test.YtjmmfpolkkglaaaEnts
import Derived.Outline
import Derived.Deep.QuietTactic
import Derived.BigQuiet
import Derived.Laws.BitsAllLaws
import Derived.Laws.IdiomStrings
namespace Go.Proofs.Ytjmmfpolkkglaaa.Pages
open Go.RowKit
set_option linter.unusedSimpArgs false
set_option linter.unusedVariables false

/-- only block ρ may have turned; new blocks may have come -/
structure Only (ρ : Nat) (w w' : World) : Prop where
  os : w'.os = w.os
  tape : w'.tape = w.tape
  output : w'.output = w.output
  size : w.heap.size ≤ w'.heap.size
  block : ∀ (k : Nat), k < w.heap.size → k ≠ ρ → w'.heap[k]? = w.heap[k]?
theorem Only.refl (ρ : Nat) (w : World) : Only ρ w w := ⟨rfl, rfl, rfl, Nat.le_refl _, fun _ _ _ => rfl⟩
theorem Only.trans {ρ : Nat} {a b c : World} (h : Only ρ a b) (k : Only ρ b c) : Only ρ a c :=
  ⟨k.os.trans h.os, k.tape.trans h.tape, k.output.trans h.output, Nat.le_trans h.size k.size, fun i hi hr => (k.block i (Nat.lt_of_lt_of_le hi h.size) hr).trans (h.block i hi hr)⟩
theorem Only.drewN {ρ : Nat} {a w : World} (h : Only ρ a w) (n : Nat) : Only ρ a (w.drewN n) := h.trans ⟨rfl, rfl, rfl, Nat.le_refl _, fun _ _ _ => rfl⟩
theorem Only.setCell {ρ : Nat} {a w : World} (h : Only ρ a w) (i : Nat) (v : Value) : Only ρ a (w.setCell ⟨ρ, i, none⟩ v) :=
  h.trans ⟨rfl, rfl, rfl, by simp [World.setCell], fun k _ hr => Below.heap_setCell _ _ _ _ hr⟩
theorem Only.of_below {ρ : Nat} {w w' : World} (h : Below w.heap.size w w') : Only ρ w w' := ⟨h.os, h.tape, h.output, h.size, fun k hk _ => h.block k hk⟩

/-- a reader at block ρ over the bytes bs at block g, which has come to 'at' -/
structure Rd (w : World) (ρ g c : Nat) (bs : List UInt8) (at_ : Nat) : Prop where
  box : w.heap[ρ]? = some (.cells #[.slice (some ⟨g, 0, none⟩) bs.length c, .int .i64 at_] 79)
  bytes : ∀ (j : Nat) (hj : j < bs.length), w.cell? ⟨g, j, none⟩ = some (byteV bs[j])
  ne : g ≠ ρ
  lt : g < w.heap.size
  le : at_ ≤ bs.length
  len : bs.length ≤ 1000
  cap : bs.length ≤ c
theorem box2 {w : World} {β : Nat} {a b : Value} {e : TypeId} (h : w.heap[β]? = some (.cells #[a, b] e)) : w.cell? ⟨β, 0, none⟩ = some a ∧ w.cell? ⟨β, 1, none⟩ = some b := by simp [World.cell?, h]
theorem free_of {w : World} {β : Nat} {cs : Array Value} {e : TypeId} (h : w.heap[β]? = some (.cells cs e)) (i : Nat) : w.frozen? ⟨β, i, none⟩ = false := by simp [World.frozen?, h]
theorem set_of {w : World} {β : Nat} {cs : Array Value} {e : TypeId} (h : w.heap[β]? = some (.cells cs e)) (i : Nat) (v : Value) : (w.setCell ⟨β, i, none⟩ v).heap[β]? = some (.cells (cs.setIfInBounds i v) e) := by
  simp only [World.setCell]
  rw [Array.getElem?_modify, if_pos rfl, h]
  rfl
theorem Rd.only {w w' : World} {ρ g c : Nat} {bs : List UInt8} {a a' : Nat} (h : Rd w ρ g c bs a) (ho : Only ρ w w') (hr : w'.heap[ρ]? = some (.cells #[.slice (some ⟨g, 0, none⟩) bs.length c, .int .i64 a'] 79)) (hle : a' ≤ bs.length) : Rd w' ρ g c bs a' :=
  ⟨hr, fun j hj => by rw [World.cell?_of_block (w := w) (ho.block g h.lt h.ne)]; exact h.bytes j hj, h.ne, Nat.lt_of_lt_of_le h.lt ho.size, hle, h.len, h.cap⟩

theorem ret_v {u v : Value} (h : u = v) : Ending.returned u = .returned v := by rw [h]
/-- the byte that comes next -/
def nextB (bs : List UInt8) (a : Nat) : UInt8 := bs.getD a 0
def nextA (bs : List UInt8) (a : Nat) : Nat := min (a + 1) bs.length

set_option maxHeartbeats 1000000 in
theorem next_any (ρ g c : Nat) (bs : List UInt8) (a : Nat) (w : World) (h : Rd w ρ g c bs a) :
    Calls Try.prog 54 #[.pointer (some ⟨ρ, 0, none⟩)] w fun e w' => e = .returned (byteV (nextB bs a)) ∧ Rd w' ρ g c bs (nextA bs a) ∧ Only ρ w w' := by
  obtain ⟨r0, r1⟩ := box2 h.box
  have hle := h.le
  have hln := h.len
  have hfr := free_of h.box
  by_cases hlt : a < bs.length
  · have hb := h.bytes a hlt
    have ha1 : (a : Int) < (bs.length : Int) := by omega
    have hs : ∀ n, ((w.drewN n).setCell ⟨ρ, 1, none⟩ (.int .i64 ((a : Int) + 1))).heap[ρ]? = some (.cells #[.slice (some ⟨g, 0, none⟩) bs.length c, .int .i64 ((a : Int) + 1)] 79) := fun n => by
      have := set_of (w := w.drewN n) h.box 1 (.int .i64 ((a : Int) + 1)); simpa using this
    have q0 := fun n => (box2 (hs n)).1
    have q1 := fun n => (box2 (hs n)).2
    have hb2 : ∀ n, ((w.drewN n).setCell ⟨ρ, 1, none⟩ (.int .i64 ((a : Int) + 1))).cell? ⟨g, a, none⟩ = some (byteV bs[a]) := fun n => by rw [World.cell?_of_block (w := w.drewN n) (Below.heap_setCell _ _ _ _ h.ne)]; exact hb
    have e1 : nextB bs a = bs[a] := by simp [nextB, List.getD, List.getElem?_eq_getElem hlt]
    have e2 : nextA bs a = a + 1 := by unfold nextA; omega
    have HE1 : Hid (nextB bs a = bs[a]) := e1
    have HE2 : Hid (nextA bs a = a + 1) := e2
    have HS : Hid (∀ n, ((w.drewN n).setCell ⟨ρ, 1, none⟩ (.int .i64 ((a : Int) + 1))).heap[ρ]? = some (.cells #[.slice (some ⟨g, 0, none⟩) bs.length c, .int .i64 ((a : Int) + 1)] 79)) := hs
    clear e1 e2 hs
    go_enter Try.func54, Try.ntmps54
    go_wp2
    go_quiet (fail)
    go_wp2
    go_quiet (fail)
    go_wp2
    go_ret
    exact ⟨ret_v (u := byteV bs[a]) (congrArg byteV HE1.out.symm), by rw [HE2.out]; exact h.only ((((Only.refl ρ w).drewN _).setCell 1 _).drewN _) (HS.out _) (by omega), (((Only.refl ρ w).drewN _).setCell 1 _).drewN _⟩
  · have ha1 : (bs.length : Int) ≤ (a : Int) := by omega
    go_enter Try.func54, Try.ntmps54
    go_wp2
    go_quiet (fail)
    go_wp2
    go_ret
    have e1 : nextB bs a = 0 := by simp [nextB, List.getD, List.getElem?_eq_none (by omega : bs.length ≤ a)]
    have e2 : nextA bs a = a := by unfold nextA; omega
    exact ⟨ret_v (by rw [e1]; rfl), by rw [e2]; exact h.only ((Only.refl ρ w).drewN _) h.box hle, (Only.refl ρ w).drewN _⟩

/-- the value of k bytes from place a on -/
def numV (bs : List UInt8) (a : Nat) : Nat → Nat
  | 0 => 0
  | k + 1 => numV bs a k * 256 + (bs.getD (a + k) 0).toNat
def posB (bs : List UInt8) (a k : Nat) : Nat := min (a + k) bs.length
theorem numV_lt (bs : List UInt8) (a k : Nat) : numV bs a k < 256 ^ k := by
  induction k with
  | zero => simp [numV]
  | succ k ih =>
    have := (bs.getD (a + k) 0).toNat_lt
    simp only [numV, Nat.pow_succ]
    omega
theorem pow_le8 {j : Nat} (h : j ≤ 7) : 256 ^ j ≤ 72057594037927936 := by
  have : 256 ^ j ≤ 256 ^ 7 := Nat.pow_le_pow_right (by omega) h
  simpa using this
theorem nextB_pos (bs : List UInt8) (a j : Nat) (h : a ≤ bs.length) : nextB bs (posB bs a j) = bs.getD (a + j) 0 := by
  unfold nextB posB
  by_cases hl : a + j ≤ bs.length
  · rw [Nat.min_eq_left hl]
  · rw [Nat.min_eq_right (by omega)]
    simp [List.getD, List.getElem?_eq_none (by omega : bs.length ≤ a + j)]
theorem posB_zero {bs : List UInt8} {a : Nat} (h : a ≤ bs.length) : posB bs a 0 = a := by unfold posB; omega
theorem nextA_pos (bs : List UInt8) (a j : Nat) : nextA bs (posB bs a j) = posB bs a (j + 1) := by unfold nextA posB; omega

theorem or_step {V n : Nat} (hV : V < 72057594037927936) (hn : n < 2 ^ 8) : bits BinOp.or IntKind.u64 ((V : Int) * 256) (n : Int) = ((V * 256 + n : Nat) : Int) := by
  have e : (V : Int) * 256 = ((V * 256 : Nat) : Int) := by omega
  rw [e, u64_or_nat _ _ (by omega) (by omega), nat_join 8 _ _ (by omega) hn]
set_option maxHeartbeats 1000000 in
theorem number_any (ρ g c : Nat) (bs : List UInt8) (a k : Nat) (w : World) (h : Rd w ρ g c bs a) (hk : k ≤ 8) :
    Calls Try.prog 45 #[.pointer (some ⟨ρ, 0, none⟩), .int .i64 k] w fun e w' => e = .returned (.int .i64 (wrap64 (numV bs a k))) ∧ Rd w' ρ g c bs (posB bs a k) ∧ Only ρ w w' := by
  have hle := h.le
  go_enter Try.func45, Try.ntmps45
  go_wp2
  go_loopw [5, 7] (fun u i wr => ∃ j : Nat, j ≤ k ∧ i = .int .i64 j ∧ u = .int .u64 (numV bs a j : Nat) ∧ Rd wr ρ g c bs (posB bs a j) ∧ Only ρ w wr) (fun _ i _ => k - (intOf i).toNat)
  case atStart => exact ⟨0, Nat.zero_le _, rfl, rfl, by rw [posB_zero hle]; exact h, Only.refl _ _⟩
  case round =>
    obtain ⟨j, hj, rfl, rfl, hr, ho⟩ := hrel
    have hv := numV_lt bs a j
    by_cases hlt : j < k
    · have hp := pow_le8 (show j ≤ 7 by omega)
      have hN := next_any ρ g c bs (posB bs a j) wr hr
      rw [nextB_pos bs a j hle, nextA_pos] at hN
      have hbt := (bs.getD (a + j) 0).toNat_lt
      obtain ⟨b, hb⟩ : ∃ b, b = bs.getD (a + j) 0 := ⟨_, rfl⟩
      have HB : Hid (numV bs a (j + 1) = numV bs a j * 256 + b.toNat) := by show _ = _; rw [hb]; rfl
      rw [← hb] at hN hbt
      obtain ⟨V, hV⟩ : ∃ V, V = numV bs a j := ⟨_, rfl⟩
      rw [← hV] at hv HB
      rw [← hV]
      clear hb hV
      unfold byteV at hN
      go_wp2_with (go_at_call 54; refine hN.mono ?_; rintro e wn ⟨rfl, hrn, hon⟩)
      go_roundw
      case rel => exact ⟨j + 1, by omega, by go_num, by rw [HB.out, or_step (by omega) hbt], hrn, ho.trans hon⟩
      case measure => simp [intOf]; omega
    · obtain rfl : j = k := by omega
      go_wp2
      go_ret
      exact ⟨rfl, hr, ho⟩

theorem number_z (ρ g c : Nat) (bs : List UInt8) (a : Nat) (z : Int) (w : World) (h : Rd w ρ g c bs a) (h0 : 0 ≤ z) (h8 : z ≤ 8) :
    Calls Try.prog 45 #[.pointer (some ⟨ρ, 0, none⟩), .int .i64 z] w fun e w' => e = .returned (.int .i64 (wrap64 (numV bs a z.toNat))) ∧ Rd w' ρ g c bs (posB bs a z.toNat) ∧ Only ρ w w' := by
  obtain ⟨k, rfl⟩ : ∃ k : Nat, z = k := ⟨z.toNat, by omega⟩
  exact number_any ρ g c bs a k w h (by omega)
theorem number_1 (ρ g c : Nat) (bs : List UInt8) (a : Nat) (w : World) (h : Rd w ρ g c bs a) :
    Calls Try.prog 45 #[.pointer (some ⟨ρ, 0, none⟩), .int .i64 1] w fun e w' => e = .returned (.int .i64 ((bs.getD a 0).toNat : Nat)) ∧ Rd w' ρ g c bs (posB bs a 1) ∧ Only ρ w w' := by
  refine (number_any ρ g c bs a 1 w h (by omega)).mono fun e w' ⟨he, hr, ho⟩ => ⟨?_, hr, ho⟩
  rw [he]
  refine ret_v (congrArg (Value.int .i64) ?_)
  have := (bs.getD a 0).toNat_lt
  simp only [numV, Nat.add_zero, Nat.zero_mul, Nat.zero_add]
  unfold wrap64
  omega

theorem conv_cut (u : World) (g p S c : Nat) (bs : List UInt8) (hb : ∀ (j : Nat) (hj : j < bs.length), u.cell? ⟨g, j, none⟩ = some (byteV bs[j])) (h1 : p + S ≤ bs.length) (h2 : bs.length ≤ c) :
    (convert 43 9 (.slice (if c = p then some ⟨g, 0, none⟩ else some ⟨g, p, none⟩) S (c - p))).run Try.prog u = .ok (.string ⟨((bs.drop p).take S).toArray⟩) u := by
  have hl : ((bs.drop p).take S).length = S := by simp; omega
  by_cases hc : c = p
  · have hS : S = 0 := by omega
    subst hS
    rw [if_pos hc]
    have := run_convert_bytes_back (P := Try.prog) u 43 9 5 ⟨g, 0, none⟩ (c - p) [] Try.underlying43 Try.underlying5 Try.underlying9 (fun j hj => by simp at hj)
    simpa using this
  · rw [if_neg hc]
    have := run_convert_bytes_back (P := Try.prog) u 43 9 5 ⟨g, p, none⟩ (c - p) ((bs.drop p).take S) Try.underlying43 Try.underlying5 Try.underlying9 (fun j hj => by
      have e : (⟨g, p, none⟩ : Addr).add j = ⟨g, p + j, none⟩ := by unfold Addr.add; split <;> simp_all
      rw [hl] at hj
      rw [e, hb (p + j) (by omega)]
      simp [byteV])
    rw [hl] at this
    exact this
theorem take_more {l : List UInt8} {p S : Nat} (h : l.length ≤ p + S) : (l.drop p).take (l.length - p) = (l.drop p).take S := by
  rw [List.take_of_length_le (by simp), List.take_of_length_le (by simp; omega)]
/-- a text that is read: its bytes, and where the reader has come to -/
def txtB (bs : List UInt8) (a : Nat) : List UInt8 := (bs.drop (posB bs a 1)).take (bs.getD a 0).toNat
def txtA (bs : List UInt8) (a : Nat) : Nat := min (posB bs a 1 + (bs.getD a 0).toNat) bs.length

set_option maxHeartbeats 1000000 in
theorem text_read (ρ g c : Nat) (bs : List UInt8) (a : Nat) (w : World) (h : Rd w ρ g c bs a) :
    Calls Try.prog 48 #[.pointer (some ⟨ρ, 0, none⟩)] w fun e w' => e = .returned (.string ⟨(txtB bs a).toArray⟩) ∧ Rd w' ρ g c bs (txtA bs a) ∧ Only ρ w w' := by
  have hln := h.len
  have hcp := h.cap
  have hst := (bs.getD a 0).toNat_lt
  obtain ⟨S, hS⟩ : ∃ S, S = (bs.getD a 0).toNat := ⟨_, rfl⟩
  obtain ⟨p, hp⟩ : ∃ p, p = posB bs a 1 := ⟨_, rfl⟩
  have hN := number_1 ρ g c bs a w h
  rw [← hS, ← hp] at hN
  have hple : p ≤ bs.length := by rw [hp]; unfold posB; omega
  rw [← hS] at hst
  have HB : Hid (txtB bs a = (bs.drop p).take S) := by show _ = _; rw [hS, hp]; rfl
  have HA : Hid (txtA bs a = min (p + S) bs.length) := by show _ = _; rw [hS, hp]; rfl
  clear hS hp
  by_cases ht : p + S ≤ bs.length
  · have ht' : (p : Int) + (S : Int) ≤ (bs.length : Int) := by omega
    have ht2 : (p : Int) ≤ (p : Int) + (S : Int) := by omega
    have ht3 : (p : Int) + (S : Int) ≤ (c : Int) := by omega
    have hcv : ∀ (u : World), (∀ (j : Nat) (hj : j < bs.length), u.cell? ⟨g, j, none⟩ = some (byteV bs[j])) → (convert 43 9 (.slice (if c = p then some ⟨g, 0, none⟩ else some ⟨g, p, none⟩) (((p : Int) + (S : Int)).toNat - p) (c - p))).run Try.prog u = .ok (.string ⟨((bs.drop p).take S).toArray⟩) u := fun u hu => by
      rw [show ((p : Int) + (S : Int)).toNat - p = S by omega]
      exact conv_cut u g p S c bs hu (by omega) hcp
    by_cases hc : c = p
    · have hc' : p = c := hc.symm
      subst hc'
      clear hcv
      have hcv : ∀ (u : World), (∀ (j : Nat) (hj : j < bs.length), u.cell? ⟨g, j, none⟩ = some (byteV bs[j])) → (convert 43 9 (.slice (some ⟨g, 0, none⟩) 0 0)).run Try.prog u = .ok (.string ⟨((bs.drop p).take S).toArray⟩) u := fun u hu => by
        have h0 := conv_cut u g p S p bs hu (by omega) (by omega)
        have e : S = 0 := by omega
        rw [if_pos rfl, Nat.sub_self] at h0
        rw [e] at h0 ⊢
        exact h0
      go_enter Try.func48, Try.ntmps48
      go_wp2_with (go_at_call 45; refine hN.mono ?_; rintro e w1 ⟨rfl, hr1, ho1⟩; obtain ⟨r0, r1⟩ := box2 hr1.box; have hfr := free_of hr1.box; have hs := set_of hr1.box 1 (.int .i64 ((p : Int) + (S : Int))); have q0 := (box2 hs).1; have q1 := (box2 hs).2; have HS2 : Hid _ := hs; clear hs; have hcw := fun n => hcv ((w1.setCell ⟨ρ, 1, none⟩ (.int .i64 ((p : Int) + (S : Int)))).drewN n) (fun j hj => (World.cell?_of_block (w := w1) (Below.heap_setCell _ _ _ _ hr1.ne)).trans (hr1.bytes j hj)))
      clear hcv
      go_quiet (fail)
      go_wp2
      all_goals go_ret
      all_goals exact ⟨ret_v (u := .string ⟨((bs.drop p).take S).toArray⟩) (by rw [HB.out]), by rw [HA.out, show min (p + S) bs.length = p + S by omega]; exact hr1.only (((Only.refl ρ w1).setCell 1 _).drewN _) (by first | simpa using HS2.out | (rw [show ((p + S : Nat) : Int) = (p : Int) + (S : Int) by omega]; simpa using HS2.out)) (by omega), (ho1.setCell 1 (.int .i64 ((p : Int) + (S : Int)))).drewN _⟩
    · simp only [if_neg hc] at hcv
      go_enter Try.func48, Try.ntmps48
      go_wp2_with (go_at_call 45; refine hN.mono ?_; rintro e w1 ⟨rfl, hr1, ho1⟩; obtain ⟨r0, r1⟩ := box2 hr1.box; have hfr := free_of hr1.box; have hs := set_of hr1.box 1 (.int .i64 ((p : Int) + (S : Int))); have q0 := (box2 hs).1; have q1 := (box2 hs).2; have HS2 : Hid _ := hs; clear hs; have hcw := fun n => hcv ((w1.setCell ⟨ρ, 1, none⟩ (.int .i64 ((p : Int) + (S : Int)))).drewN n) (fun j hj => (World.cell?_of_block (w := w1) (Below.heap_setCell _ _ _ _ hr1.ne)).trans (hr1.bytes j hj)))
      clear hcv
      go_quiet (fail)
      go_wp2
      all_goals go_ret
      all_goals exact ⟨ret_v (u := .string ⟨((bs.drop p).take S).toArray⟩) (by rw [HB.out]), by rw [HA.out, show min (p + S) bs.length = p + S by omega]; exact hr1.only (((Only.refl ρ w1).setCell 1 _).drewN _) (by first | simpa using HS2.out | (rw [show ((p + S : Nat) : Int) = (p : Int) + (S : Int) by omega]; simpa using HS2.out)) (by omega), (ho1.setCell 1 (.int .i64 ((p : Int) + (S : Int)))).drewN _⟩
  · have ht' : (bs.length : Int) < (p : Int) + (S : Int) := by omega
    have ht2 : (p : Int) ≤ (bs.length : Int) := by omega
    have ht3 : (bs.length : Int) ≤ (c : Int) := by omega
    have hcv : ∀ (u : World), (∀ (j : Nat) (hj : j < bs.length), u.cell? ⟨g, j, none⟩ = some (byteV bs[j])) → (convert 43 9 (.slice (if c = p then some ⟨g, 0, none⟩ else some ⟨g, p, none⟩) (bs.length - p) (c - p))).run Try.prog u = .ok (.string ⟨((bs.drop p).take (bs.length - p)).toArray⟩) u := fun u hu => by
      rw [show bs.length - p = (bs.length - p) by omega]
      exact conv_cut u g p (bs.length - p) c bs hu (by omega) hcp
    by_cases hc : c = p
    · have hc' : p = c := hc.symm
      subst hc'
      clear hcv
      have hcv : ∀ (u : World), (∀ (j : Nat) (hj : j < bs.length), u.cell? ⟨g, j, none⟩ = some (byteV bs[j])) → (convert 43 9 (.slice (some ⟨g, 0, none⟩) 0 0)).run Try.prog u = .ok (.string ⟨((bs.drop p).take (bs.length - p)).toArray⟩) u := fun u hu => by
        have h0 := conv_cut u g p (bs.length - p) p bs hu (by omega) (by omega)
        have e : (bs.length - p) = 0 := by omega
        rw [if_pos rfl, Nat.sub_self] at h0
        rw [e] at h0 ⊢
        exact h0
      go_enter Try.func48, Try.ntmps48
      go_wp2_with (go_at_call 45; refine hN.mono ?_; rintro e w1 ⟨rfl, hr1, ho1⟩; obtain ⟨r0, r1⟩ := box2 hr1.box; have hfr := free_of hr1.box; have hs := set_of hr1.box 1 (.int .i64 (bs.length : Int)); have q0 := (box2 hs).1; have q1 := (box2 hs).2; have HS2 : Hid _ := hs; clear hs; have hcw := fun n => hcv ((w1.setCell ⟨ρ, 1, none⟩ (.int .i64 (bs.length : Int))).drewN n) (fun j hj => (World.cell?_of_block (w := w1) (Below.heap_setCell _ _ _ _ hr1.ne)).trans (hr1.bytes j hj)))
      clear hcv
      go_quiet (fail)
      go_wp2
      all_goals go_ret
      all_goals exact ⟨ret_v (u := .string ⟨#[]⟩) (by rw [HB.out, List.drop_eq_nil_of_le (by omega)]; simp), by rw [HA.out, show min (p + S) bs.length = bs.length by omega]; exact hr1.only (((Only.refl ρ w1).setCell 1 _).drewN _) (by first | simpa using HS2.out | (rw [show ((p + S : Nat) : Int) = (p : Int) + (S : Int) by omega]; simpa using HS2.out)) (by omega), (ho1.setCell 1 (.int .i64 (bs.length : Int))).drewN _⟩
    · simp only [if_neg hc] at hcv
      go_enter Try.func48, Try.ntmps48
      go_wp2_with (go_at_call 45; refine hN.mono ?_; rintro e w1 ⟨rfl, hr1, ho1⟩; obtain ⟨r0, r1⟩ := box2 hr1.box; have hfr := free_of hr1.box; have hs := set_of hr1.box 1 (.int .i64 (bs.length : Int)); have q0 := (box2 hs).1; have q1 := (box2 hs).2; have HS2 : Hid _ := hs; clear hs; have hcw := fun n => hcv ((w1.setCell ⟨ρ, 1, none⟩ (.int .i64 (bs.length : Int))).drewN n) (fun j hj => (World.cell?_of_block (w := w1) (Below.heap_setCell _ _ _ _ hr1.ne)).trans (hr1.bytes j hj)))
      clear hcv
      go_quiet (fail)
      go_wp2
      all_goals go_ret
      all_goals exact ⟨ret_v (u := .string ⟨((bs.drop p).take (bs.length - p)).toArray⟩) (by rw [HB.out]; rw [take_more (S := S) (by omega)]), by rw [HA.out, show min (p + S) bs.length = bs.length by omega]; exact hr1.only (((Only.refl ρ w1).setCell 1 _).drewN _) (by first | simpa using HS2.out | (rw [show ((p + S : Nat) : Int) = (p : Int) + (S : Int) by omega]; simpa using HS2.out)) (by omega), (ho1.setCell 1 (.int .i64 (bs.length : Int))).drewN _⟩
end Go.Proofs.Ytjmmfpolkkglaaa.Pages
