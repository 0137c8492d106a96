/-
  What the reader's entry answers and leaves.
-/
import Derived.Test.YtjmmfpolkkglaaaRead
import Derived.Test.YtjmmfpolkkglaaaFields
import Derived.Deep.DeepCutAuto
namespace Go.Proofs.Ytjmmfpolkkglaaa.Pages
open Go.RowKit
set_option linter.unusedSimpArgs false
set_option linter.unusedVariables false

theorem Only.alloc {ρ : Nat} {a w : World} (h : Only ρ a w) (o : Obj) : Only ρ a (w.alloc o) :=
  h.trans ⟨rfl, rfl, rfl, by simp, fun k hk _ => Below.heap_alloc _ _ _ hk⟩
theorem Only.keep {ρ : Nat} {w w' : World} (h : Only ρ w w') {k : Nat} {o : Obj} (hr : k ≠ ρ) (hk : w.heap[k]? = some o) : w'.heap[k]? = some o := by
  rw [h.block k (Array.getElem?_eq_some_iff.1 hk).1 hr]; exact hk
theorem keep_alloc {w : World} {k : Nat} {o x : Obj} (hk : w.heap[k]? = some o) : (w.alloc x).heap[k]? = some o := by
  rw [Below.heap_alloc _ _ _ (Array.getElem?_eq_some_iff.1 hk).1]; exact hk
theorem Rd.alloc {w : World} {ρ g c : Nat} {bs : List UInt8} {a : Nat} (h : Rd w ρ g c bs a) (o : Obj) : Rd (w.alloc o) ρ g c bs a :=
  h.only ((Only.refl ρ w).alloc o) (keep_alloc h.box) h.le
theorem Rd.lt' {w : World} {ρ g c : Nat} {bs : List UInt8} {a : Nat} (h : Rd w ρ g c bs a) : ρ < w.heap.size := (Array.getElem?_eq_some_iff.1 h.box).1
theorem number_2 (ρ g c : Nat) (bs : List UInt8) (a : Nat) (w : World) (h : Rd w ρ g c bs a) :
    Calls Try.prog 45 #[.pointer (some ⟨ρ, 0, none⟩), .int .i64 2] w fun e w' => e = .returned (.int .i64 (numV bs a 2 : Nat)) ∧ Rd w' ρ g c bs (posB bs a 2) ∧ Only ρ w w' := by
  refine (number_any ρ g c bs a 2 w h (by omega)).mono fun e w' ⟨he, hr, ho⟩ => ⟨?_, hr, ho⟩
  rw [he]
  refine ret_v (congrArg (Value.int .i64) ?_)
  have := numV_lt bs a 2
  unfold wrap64
  omega

theorem Rd.set {w : World} {ρ g c : Nat} {bs : List UInt8} {a : Nat} (h : Rd w ρ g c bs a) {β : Nat} (hβ : β ≠ ρ) (hg : β ≠ g) (i : Nat) (v : Value) : Rd (w.setCell ⟨β, i, none⟩ v) ρ g c bs a :=
  ⟨by rw [Below.heap_setCell _ _ _ _ (fun e => hβ e.symm)]; exact h.box, fun j hj => by rw [World.cell?_of_block (w := w) (Below.heap_setCell _ _ _ _ (fun e => hg e.symm))]; exact h.bytes j hj, h.ne, by have := h.lt; simpa [World.setCell] using this, h.le, h.len, h.cap⟩
theorem Only.set {ρ : Nat} {a w : World} (h : Only ρ a w) {β : Nat} (hβ : a.heap.size ≤ β) (i : Nat) (v : Value) : Only ρ a (w.setCell ⟨β, i, none⟩ v) :=
  ⟨h.os, h.tape, h.output, by have := h.size; simpa [World.setCell] using this, fun k hk hr => by rw [Below.heap_setCell _ _ _ _ (by simp; omega)]; exact h.block k hk hr⟩
theorem keep_set {w : World} {k : Nat} {o : Obj} (hk : w.heap[k]? = some o) {β : Nat} (hb : k ≠ β) (i : Nat) (v : Value) : (w.setCell ⟨β, i, none⟩ v).heap[k]? = some o := by
  rw [Below.heap_setCell _ _ _ _ hb]; exact hk
theorem set4 {u : World} {β : Nat} {a0 a1 a2 a3 : Value} {t : TypeId} (h : u.heap[β]? = some (.cells #[a0, a1, a2, a3] t)) (v0 v1 v2 v3 : Value) : ((((u.setCell ⟨β, 0, none⟩ v0).setCell ⟨β, 1, none⟩ v1).setCell ⟨β, 2, none⟩ v2).setCell ⟨β, 3, none⟩ v3).heap[β]? = some (.cells #[v0, v1, v2, v3] t) := by
  have := set_of (set_of (set_of (set_of h 0 v0) 1 v1) 2 v2) 3 v3
  simpa using this
/-- an entry that is read, and where the reader has come to -/
def entR (bs : List UInt8) (a : Nat) : Ent :=
  if bs.getD (txtA bs a) 0 = 0 then ⟨⟨(txtB bs a).toArray⟩, ⟨(txtB bs (posB bs (txtA bs a) 1)).toArray⟩, (txtB bs (posB bs (txtA bs a) 1)).length, 0⟩
  else ⟨⟨(txtB bs a).toArray⟩, ⟨#[]⟩, numV bs (posB bs (txtA bs a) 1) 2, numV bs (posB bs (posB bs (txtA bs a) 1) 2) 2⟩
def entA (bs : List UInt8) (a : Nat) : Nat :=
  if bs.getD (txtA bs a) 0 = 0 then txtA bs (posB bs (txtA bs a) 1) else posB bs (posB bs (posB bs (txtA bs a) 1) 2) 2

set_option maxRecDepth 100000 in
set_option maxHeartbeats 800000 in
theorem entry_read (ρ g c : Nat) (bs : List UInt8) (a : Nat) (w : World) (h : Rd w ρ g c bs a) :
    Calls Try.prog 47 #[.pointer (some ⟨ρ, 0, none⟩)] w fun e w' => e = .returned (.agg #[.string (entR bs a).key, .string (entR bs a).val, .int .i64 (entR bs a).size, .int .i64 (entR bs a).over]) ∧ Rd w' ρ g c bs (entA bs a) ∧ Only ρ w w' := by
  have hρ := h.lt'
  have hβ : w.heap.size ≠ ρ := by omega
  obtain ⟨K, hK⟩ : ∃ K, K = (⟨(txtB bs a).toArray⟩ : ByteArray) := ⟨_, rfl⟩
  have hT := text_read ρ g c bs a (w.alloc (.cells #[.string ⟨#[]⟩, .string ⟨#[]⟩, .int .i64 0, .int .i64 0] 52)) (h.alloc _)
  rw [← hK] at hT
  have hZ := heap_new w (.cells #[.string ⟨#[]⟩, .string ⟨#[]⟩, .int .i64 0, .int .i64 0] 52)
  have ho0 := (Only.refl ρ w).alloc (.cells #[.string ⟨#[]⟩, .string ⟨#[]⟩, .int .i64 0, .int .i64 0] 52)
  have hN1 := fun w' (h' : Rd w' ρ g c bs (txtA bs a)) => number_1 ρ g c bs (txtA bs a) w' h'
  obtain ⟨m, hmd⟩ : ∃ m, m = bs.getD (txtA bs a) 0 := ⟨_, rfl⟩
  rw [← hmd] at hN1
  cases hm : (m.toNat == 0)
  · have hm0 : ¬ bs.getD (txtA bs a) 0 = 0 := by rw [← hmd]; intro e; rw [e] at hm; simp at hm
    have hmi : ((m.toNat : Int) == 0) = false := by simpa using hm
    obtain ⟨n1, hn1⟩ : ∃ n1, n1 = numV bs (posB bs (txtA bs a) 1) 2 := ⟨_, rfl⟩
    obtain ⟨n2, hn2⟩ : ∃ n2, n2 = numV bs (posB bs (posB bs (txtA bs a) 1) 2) 2 := ⟨_, rfl⟩
    have HR : Hid (entR bs a = ⟨K, ⟨#[]⟩, n1, n2⟩) := by show _ = _; unfold entR; rw [if_neg hm0, hK, hn1, hn2]
    have HA : Hid (entA bs a = posB bs (posB bs (posB bs (txtA bs a) 1) 2) 2) := by show _ = _; unfold entA; rw [if_neg hm0]
    have hM1 := fun w2 (h2 : Rd w2 ρ g c bs (posB bs (txtA bs a) 1)) => number_2 ρ g c bs (posB bs (txtA bs a) 1) w2 h2
    have hM2 := fun w2 (h2 : Rd w2 ρ g c bs (posB bs (posB bs (txtA bs a) 1) 2)) => number_2 ρ g c bs (posB bs (posB bs (txtA bs a) 1) 2) w2 h2
    rw [← hn1] at hM1
    rw [← hn2] at hM2
    have hgl := h.lt
    clear hm hm0 hK hn1 hn2 hmd
    go_enter Try.func47, Try.ntmps47
    go_wp2_with (go_at_call 48; refine hT.mono ?_; rintro e w1 ⟨rfl, hr1, ho1⟩; have hZ1 := ho1.keep hβ hZ; have hγ : w1.heap.size ≠ ρ := Nat.ne_of_gt hr1.lt'; have hγβ : w.heap.size < w1.heap.size := (Array.getElem?_eq_some_iff.1 hZ1).1; have hE1 := heap_new w1 (.cells #[.string K, .string ⟨#[]⟩, .int .i64 0, .int .i64 0] 52); have hZ1' := keep_alloc (x := .cells #[.string K, .string ⟨#[]⟩, .int .i64 0, .int .i64 0] 52) hZ1)
    go_upto_region 6 with (go_at_call 45; refine (hN1 _ (hr1.alloc _)).mono ?_; rintro e w2 ⟨rfl, hr2, ho2⟩; have hE2 := ho2.keep hγ hE1; have hZ2 := ho2.keep hβ hZ1')
    go_upto_region 7 with (go_at_call 45; refine (hM1 _ hr2).mono ?_; rintro e w3 ⟨rfl, hr3, ho3⟩; have hE3 := ho3.keep hγ hE2; have hZ3 := ho3.keep hβ hZ2; obtain ⟨c0, c1, c2, c3⟩ := box4 hE3; have hf1 := free_of hE3; have hγg : w1.heap.size ≠ g := by omega)
    have hE4 : (w3.setCell ⟨w1.heap.size, 2, none⟩ (.int .i64 (n1 : Int))).heap[w1.heap.size]? = some (.cells #[.string K, .string ⟨#[]⟩, .int .i64 (n1 : Int), .int .i64 0] 52) := by have := set_of hE3 2 (.int .i64 (n1 : Int)); simpa using this
    have hZ4 := keep_set hZ3 (Nat.ne_of_lt hγβ) 2 (.int .i64 (n1 : Int))
    go_wp2_with (go_at_call 45; refine (hM2 _ (hr3.set hγ hγg 2 _)).mono ?_; rintro e w5 ⟨rfl, hr5, ho5⟩; have hE5 := ho5.keep hγ hE4; have hZ5 := ho5.keep hβ hZ4; obtain ⟨d0, d1, d2, d3⟩ := box4 hE5; obtain ⟨z0, z1, z2, z3⟩ := box4 hZ5; have hf2 := free_of hE5; have hf3 := free_of hZ5)
    have hU := set4 (keep_set hZ5 (Nat.ne_of_lt hγβ) 3 (.int .i64 (n2 : Int))) (.string K) (.string ⟨#[]⟩) (.int .i64 (n1 : Int)) (.int .i64 (n2 : Int))
    obtain ⟨y0, y1, y2, y3⟩ := box4 hU
    have hR := ((((hr5.set hγ hγg 3 (.int .i64 (n2 : Int))).set hβ (by omega) 0 (.string K)).set hβ (by omega) 1 (.string ⟨#[]⟩)).set hβ (by omega) 2 (.int .i64 (n1 : Int))).set hβ (by omega) 3 (.int .i64 (n2 : Int))
    have hO := (((((ho0.trans ho1).alloc (.cells #[.string K, .string ⟨#[]⟩, .int .i64 0, .int .i64 0] 52)).trans ho2).trans ho3).set (β := w1.heap.size) (by omega) 2 (.int .i64 (n1 : Int)))
    have hO2 := (((((hO.trans ho5).set (β := w1.heap.size) (by omega) 3 (.int .i64 (n2 : Int))).set (β := w.heap.size) (by omega) 0 (.string K)).set (β := w.heap.size) (by omega) 1 (.string ⟨#[]⟩)).set (β := w.heap.size) (by omega) 2 (.int .i64 (n1 : Int))).set (β := w.heap.size) (by omega) 3 (.int .i64 (n2 : Int))
    refine bodyPost_ret (v := .agg #[.string K, .string ⟨#[]⟩, .int .i64 (n1 : Int), .int .i64 (n2 : Int)]) ?_ rfl ⟨?_, ?_, hO2⟩
    · simp [results, Try.results47, go_sem, y0, y1, y2, y3]
    · rw [HR.out]
    · rw [HA.out]; exact hR
  · have hm0 : bs.getD (txtA bs a) 0 = 0 := by rw [← hmd]; apply UInt8.toNat_inj.1; simpa using hm
    have hmi : ((m.toNat : Int) == 0) = true := by simpa using hm
    obtain ⟨V, hV⟩ : ∃ V, V = (⟨(txtB bs (posB bs (txtA bs a) 1)).toArray⟩ : ByteArray) := ⟨_, rfl⟩
    have hVs : V.size = (txtB bs (posB bs (txtA bs a) 1)).length := by rw [hV]; show (txtB bs (posB bs (txtA bs a) 1)).toArray.size = _; simp
    have HR : Hid (entR bs a = ⟨K, V, V.size, 0⟩) := by show _ = _; unfold entR; rw [if_pos hm0, hK, hVs, hV]
    have HA : Hid (entA bs a = txtA bs (posB bs (txtA bs a) 1)) := by show _ = _; unfold entA; rw [if_pos hm0]
    have hT2 := fun w2 (h2 : Rd w2 ρ g c bs (posB bs (txtA bs a) 1)) => text_read ρ g c bs (posB bs (txtA bs a) 1) w2 h2
    rw [← hV] at hT2
    clear hVs hm hm0 hK hV hmd
    go_enter Try.func47, Try.ntmps47
    go_wp2_with (go_at_call 48; refine hT.mono ?_; rintro e w1 ⟨rfl, hr1, ho1⟩; have hZ1 := ho1.keep hβ hZ; have hγ : w1.heap.size ≠ ρ := Nat.ne_of_gt hr1.lt'; have hγβ : w.heap.size < w1.heap.size := (Array.getElem?_eq_some_iff.1 hZ1).1; have hE1 := heap_new w1 (.cells #[.string K, .string ⟨#[]⟩, .int .i64 0, .int .i64 0] 52); have hZ1' := keep_alloc (x := .cells #[.string K, .string ⟨#[]⟩, .int .i64 0, .int .i64 0] 52) hZ1)
    go_wp2_with (first | (go_at_call 45; refine (hN1 _ (hr1.alloc _)).mono ?_; rintro e w2 ⟨rfl, hr2, ho2⟩; have hE2 := ho2.keep hγ hE1; have hZ2 := ho2.keep hβ hZ1') | (go_at_call 48; refine (hT2 _ hr2).mono ?_; rintro e w3 ⟨rfl, hr3, ho3⟩; have hE3 := ho3.keep hγ hE2; have hZ3 := ho3.keep hβ hZ2; obtain ⟨c0, c1, c2, c3⟩ := box4 hE3; obtain ⟨z0, z1, z2, z3⟩ := box4 hZ3; have hf1 := free_of hE3; have hf2 := free_of hZ3))
    have hgl := h.lt
    have hU := set4 (keep_set (keep_set hZ3 (Nat.ne_of_lt hγβ) 1 (.string V)) (Nat.ne_of_lt hγβ) 2 (.int .i64 (V.size : Int))) (.string K) (.string V) (.int .i64 (V.size : Int)) (.int .i64 0)
    obtain ⟨y0, y1, y2, y3⟩ := box4 hU
    have hR := (((((hr3.set hγ (by omega) 1 (.string V)).set hγ (by omega) 2 (.int .i64 (V.size : Int))).set hβ (by omega) 0 (.string K)).set hβ (by omega) 1 (.string V)).set hβ (by omega) 2 (.int .i64 (V.size : Int))).set hβ (by omega) 3 (.int .i64 0)
    have hO := ((((((ho0.trans ho1).alloc (.cells #[.string K, .string ⟨#[]⟩, .int .i64 0, .int .i64 0] 52)).trans ho2).trans ho3).set (β := w1.heap.size) (by omega) 1 (.string V)).set (β := w1.heap.size) (by omega) 2 (.int .i64 (V.size : Int)))
    have hO2 := (((hO.set (β := w.heap.size) (by omega) 0 (.string K)).set (β := w.heap.size) (by omega) 1 (.string V)).set (β := w.heap.size) (by omega) 2 (.int .i64 (V.size : Int))).set (β := w.heap.size) (by omega) 3 (.int .i64 0)
    refine bodyPost_ret (v := .agg #[.string K, .string V, .int .i64 (V.size : Int), .int .i64 0]) ?_ rfl ⟨?_, ?_, hO2⟩
    · simp [results, Try.results47, go_sem, y0, y1, y2, y3]
    · rw [HR.out]
    · rw [HA.out]; exact hR
end Go.Proofs.Ytjmmfpolkkglaaa.Pages
