/-
  What the reference's reader answers and leaves: an entry.
-/
import Derived.Test.YtjmmfpolkkglaaaRRead
namespace Go.Proofs.Ytjmmfpolkkglaaa.Pages
open Go.RowKit
set_option linter.unusedSimpArgs false
set_option linter.unusedVariables false

theorem RAt.alloc {w : World} {ρ : Nat} {s : RS} (h : RAt w ρ s) (o : Obj) : RAt (w.alloc o) ρ s := ⟨keep_alloc h.1, h.2⟩
theorem RAt.set {w : World} {ρ β : Nat} {s : RS} (h : RAt w ρ s) (hb : ρ ≠ β) (i : Nat) (v : Value) : RAt (w.setCell ⟨β, i, none⟩ v) ρ s := ⟨keep_set h.1 hb i v, h.2⟩
theorem RAt.lt {w : World} {ρ : Nat} {s : RS} (h : RAt w ρ s) : ρ < w.heap.size := (Array.getElem?_eq_some_iff.1 h.1).1
theorem past_len (s : RS) (n : Nat) : (s.past n).l.length ≤ s.l.length := by unfold RS.past; split <;> simp
/-- an entry that is read, and what is left -/
def RS.key (s : RS) : ByteArray := strB ((s.past 1).bytes s.one)
def RS.keyed (s : RS) : RS := (s.past 1).past s.one
def RS.ent (s : RS) : Ent :=
  if s.keyed.one = 0 then ⟨s.key, strB (((s.keyed.past 1).past 1).bytes (s.keyed.past 1).one), (s.keyed.past 1).one, 0⟩
  else ⟨s.key, ⟨#[]⟩, numI ((s.keyed.past 1).bytes 2), numI (((s.keyed.past 1).past 2).bytes 2)⟩
def RS.ented (s : RS) : RS :=
  if s.keyed.one = 0 then ((s.keyed.past 1).past 1).past (s.keyed.past 1).one else ((s.keyed.past 1).past 2).past 2

set_option maxRecDepth 100000 in
set_option maxHeartbeats 1000000 in
theorem rentry_any (ρ : Nat) (s : RS) (w : World) (h : RAt w ρ s) :
    Calls Try.prog 31 #[.pointer (some ⟨ρ, 0, none⟩)] w fun e w' => e = .returned (.agg #[.string s.ent.key, .string s.ent.val, .int .i64 s.ent.size, .int .i64 s.ent.over]) ∧ RAt w' ρ s.ented ∧ Only ρ w w' := by
  have hβ : w.heap.size ≠ ρ := Nat.ne_of_gt h.lt
  have c1 := rnum_1 ρ s (w.alloc (.cells #[.string ⟨#[]⟩, .string ⟨#[]⟩, .int .i64 0, .int .i64 0] 52)) (h.alloc _)
  have hZ := heap_new w (.cells #[.string ⟨#[]⟩, .string ⟨#[]⟩, .int .i64 0, .int .i64 0] 52)
  have ho0 := (Only.refl ρ w).alloc (.cells #[.string ⟨#[]⟩, .string ⟨#[]⟩, .int .i64 0, .int .i64 0] 52)
  have o1 := (one_of s).2
  obtain ⟨n, hn⟩ : ∃ n, s.one = n := ⟨_, rfl⟩
  obtain ⟨s1, hs1⟩ : ∃ s1, s.past 1 = s1 := ⟨_, rfl⟩
  rw [hn] at c1 o1
  rw [hs1] at c1
  have c2 := fun w2 h2 => rbytes_any ρ s1 n w2 h2 (by omega)
  obtain ⟨K, hK⟩ : ∃ K, strB (s1.bytes n) = K := ⟨_, rfl⟩
  obtain ⟨s2, hs2⟩ : ∃ s2, s1.past n = s2 := ⟨_, rfl⟩
  rw [hK, hs2] at c2
  have c3 := fun w2 h2 => rnum_1 ρ s2 w2 h2
  obtain ⟨t, ht⟩ : ∃ t, s2.one = t := ⟨_, rfl⟩
  obtain ⟨s3, hs3⟩ : ∃ s3, s2.past 1 = s3 := ⟨_, rfl⟩
  rw [ht, hs3] at c3
  have ek : s.key = K := by unfold RS.key; rw [hs1, hn, hK]
  have ed : s.keyed = s2 := by unfold RS.keyed; rw [hs1, hn, hs2]
  have hlt := h.lt
  clear h hn hs1 hK hs2
  by_cases h0 : t = 0
  · have c4 := fun w2 h2 => rnum_1 ρ s3 w2 h2
    have o4 := (one_of s3).2
    have ee : s.ent = ⟨K, strB ((s3.past 1).bytes s3.one), s3.one, 0⟩ := by unfold RS.ent; rw [ed, ht, if_pos h0, ek, hs3]
    have ef : s.ented = (s3.past 1).past s3.one := by unfold RS.ented; rw [ed, ht, if_pos h0, hs3]
    obtain ⟨m, hm⟩ : ∃ m, s3.one = m := ⟨_, rfl⟩
    obtain ⟨s4, hs4⟩ : ∃ s4, s3.past 1 = s4 := ⟨_, rfl⟩
    rw [hm] at c4 o4 ee ef
    rw [hs4] at c4 ee ef
    have c5 := fun w2 h2 => rbytes_any ρ s4 m w2 h2 (by omega)
    obtain ⟨V, hV⟩ : ∃ V, strB (s4.bytes m) = V := ⟨_, rfl⟩
    obtain ⟨s5, hs5⟩ : ∃ s5, s4.past m = s5 := ⟨_, rfl⟩
    rw [hV, hs5] at c5
    rw [hV] at ee
    rw [hs5] at ef
    rw [ee, ef]
    subst h0
    clear hm hs4 hV hs5 ee ef ek ed ht hs3
    go_enter Try.func31, Try.ntmps31
    go_upto_region 3 with (first | (go_at_call 29; refine c1.mono ?_; rintro e w1 ⟨rfl, r1, p1⟩; have hZ1 := p1.keep hβ hZ) | (go_at_call 30; refine (c2 _ r1).mono ?_; rintro e w2 ⟨rfl, r2, p2⟩; have hZ2 := p2.keep hβ hZ1))
    have hγ : w2.heap.size ≠ ρ := Nat.ne_of_gt r2.lt
    have hγβ : w.heap.size < w2.heap.size := (Array.getElem?_eq_some_iff.1 hZ2).1
    have hE2 := heap_new w2 (.cells #[.string K, .string ⟨#[]⟩, .int .i64 0, .int .i64 0] 52)
    have hZ2' := keep_alloc (x := (.cells #[.string K, .string ⟨#[]⟩, .int .i64 0, .int .i64 0] 52)) hZ2
    go_upto_region 5 with (go_at_call 29; refine (c3 _ (r2.alloc _)).mono ?_; rintro e w3 ⟨rfl, r3, p3⟩; have hE3 := p3.keep hγ hE2; have hZ3 := p3.keep hβ hZ2')
    go_upto_region 6 with (go_at_call 29; refine (c4 _ r3).mono ?_; rintro e w4 ⟨rfl, r4, p4⟩; have hE4 := p4.keep hγ hE3; have hZ4 := p4.keep hβ hZ3; obtain ⟨c0, c1, c2, c3⟩ := box4 hE4; have hf1 := free_of hE4)
    have hE5 : (w4.setCell ⟨w2.heap.size, 2, none⟩ (.int .i64 (m : Int))).heap[w2.heap.size]? = some (.cells #[.string K, .string ⟨#[]⟩, .int .i64 (m : Int), .int .i64 0] 52) := by have := set_of hE4 2 (.int .i64 (m : Int)); simpa using this
    have hZ5 := keep_set hZ4 (Nat.ne_of_lt hγβ) 2 (.int .i64 (m : Int))
    obtain ⟨g0, g1, g2, g3⟩ := box4 hE5
    go_wp2_with (go_at_call 30; refine (c5 _ (r4.set hγ.symm 2 _)).mono ?_; rintro e w5 ⟨rfl, r5, p5⟩; have hE6 := p5.keep hγ hE5; have hZ6 := p5.keep hβ hZ5; obtain ⟨d0, d1, d2, d3⟩ := box4 hE6; obtain ⟨z0, z1, z2, z3⟩ := box4 hZ6; have hf2 := free_of hE6; have hf3 := free_of hZ6)
    have hU := set4 (keep_set hZ6 (Nat.ne_of_lt hγβ) 1 (.string V)) (.string K) (.string V) (.int .i64 (m : Int)) (.int .i64 0)
    obtain ⟨y0, y1, y2, y3⟩ := box4 hU
    have hR := ((((r5.set hγ.symm 1 (.string V)).set hβ.symm 0 (.string K)).set hβ.symm 1 (.string V)).set hβ.symm 2 (.int .i64 (m : Int))).set hβ.symm 3 (.int .i64 0)
    have hO := ((((((ho0.trans p1).trans p2).alloc (.cells #[.string K, .string ⟨#[]⟩, .int .i64 0, .int .i64 0] 52)).trans p3).trans p4).set (β := w2.heap.size) (by omega) 2 (.int .i64 (m : Int)))
    have hO2 := (((((hO.trans p5).set (β := w2.heap.size) (by omega) 1 (.string V)).set (β := w.heap.size) (by omega) 0 (.string K)).set (β := w.heap.size) (by omega) 1 (.string V)).set (β := w.heap.size) (by omega) 2 (.int .i64 (m : Int))).set (β := w.heap.size) (by omega) 3 (.int .i64 0)
    refine bodyPost_ret (v := .agg #[.string K, .string V, .int .i64 (m : Int), .int .i64 0]) ?_ rfl ⟨rfl, hR, hO2⟩
    simp [results, Try.results31, go_sem, y0, y1, y2, y3]
  · have c4 := fun w2 h2 => rnum_any ρ s3 2 w2 h2 (by decide)
    have ee : s.ent = ⟨K, ⟨#[]⟩, numI (s3.bytes 2), numI ((s3.past 2).bytes 2)⟩ := by unfold RS.ent; rw [ed, ht, if_neg h0, ek, hs3]
    have ef : s.ented = (s3.past 2).past 2 := by unfold RS.ented; rw [ed, ht, if_neg h0, hs3]
    obtain ⟨m, hm⟩ : ∃ m, numI (s3.bytes 2) = m := ⟨_, rfl⟩
    obtain ⟨s4, hs4⟩ : ∃ s4, s3.past 2 = s4 := ⟨_, rfl⟩
    rw [hm] at c4 ee
    rw [hs4] at c4 ee ef
    have c5 := fun w2 h2 => rnum_any ρ s4 2 w2 h2 (by decide)
    obtain ⟨V, hV⟩ : ∃ V, numI (s4.bytes 2) = V := ⟨_, rfl⟩
    obtain ⟨s5, hs5⟩ : ∃ s5, s4.past 2 = s5 := ⟨_, rfl⟩
    rw [hV, hs5] at c5
    rw [hV] at ee
    rw [hs5] at ef
    rw [ee, ef]
    have hti : ((t : Int) == 0) = false := by simp; omega
    clear hm hs4 hV hs5 ee ef ek ed ht hs3 h0
    go_enter Try.func31, Try.ntmps31
    go_upto_region 3 with (first | (go_at_call 29; refine c1.mono ?_; rintro e w1 ⟨rfl, r1, p1⟩; have hZ1 := p1.keep hβ hZ) | (go_at_call 30; refine (c2 _ r1).mono ?_; rintro e w2 ⟨rfl, r2, p2⟩; have hZ2 := p2.keep hβ hZ1))
    have hγ : w2.heap.size ≠ ρ := Nat.ne_of_gt r2.lt
    have hγβ : w.heap.size < w2.heap.size := (Array.getElem?_eq_some_iff.1 hZ2).1
    have hE2 := heap_new w2 (.cells #[.string K, .string ⟨#[]⟩, .int .i64 0, .int .i64 0] 52)
    have hZ2' := keep_alloc (x := (.cells #[.string K, .string ⟨#[]⟩, .int .i64 0, .int .i64 0] 52)) hZ2
    go_upto_region 8 with (go_at_call 29; refine (c3 _ (r2.alloc _)).mono ?_; rintro e w3 ⟨rfl, r3, p3⟩; have hE3 := p3.keep hγ hE2; have hZ3 := p3.keep hβ hZ2')
    go_upto_region 9 with (go_at_call 29; refine (c4 _ r3).mono ?_; rintro e w4 ⟨rfl, r4, p4⟩; have hE4 := p4.keep hγ hE3; have hZ4 := p4.keep hβ hZ3; obtain ⟨c0, c1, c2, c3⟩ := box4 hE4; have hf1 := free_of hE4)
    have hE5 : (w4.setCell ⟨w2.heap.size, 2, none⟩ (.int .i64 m)).heap[w2.heap.size]? = some (.cells #[.string K, .string ⟨#[]⟩, .int .i64 m, .int .i64 0] 52) := by have := set_of hE4 2 (.int .i64 m); simpa using this
    have hZ5 := keep_set hZ4 (Nat.ne_of_lt hγβ) 2 (.int .i64 m)
    obtain ⟨g0, g1, g2, g3⟩ := box4 hE5
    go_wp2_with (go_at_call 29; refine (c5 _ (r4.set hγ.symm 2 _)).mono ?_; rintro e w5 ⟨rfl, r5, p5⟩; have hE6 := p5.keep hγ hE5; have hZ6 := p5.keep hβ hZ5; obtain ⟨d0, d1, d2, d3⟩ := box4 hE6; obtain ⟨z0, z1, z2, z3⟩ := box4 hZ6; have hf2 := free_of hE6; have hf3 := free_of hZ6)
    have hU := set4 (keep_set hZ6 (Nat.ne_of_lt hγβ) 3 (.int .i64 V)) (.string K) (.string ⟨#[]⟩) (.int .i64 m) (.int .i64 V)
    obtain ⟨y0, y1, y2, y3⟩ := box4 hU
    have hR := ((((r5.set hγ.symm 3 (.int .i64 V)).set hβ.symm 0 (.string K)).set hβ.symm 1 (.string ⟨#[]⟩)).set hβ.symm 2 (.int .i64 m)).set hβ.symm 3 (.int .i64 V)
    have hO := ((((((ho0.trans p1).trans p2).alloc (.cells #[.string K, .string ⟨#[]⟩, .int .i64 0, .int .i64 0] 52)).trans p3).trans p4).set (β := w2.heap.size) (by omega) 2 (.int .i64 m))
    have hO2 := (((((hO.trans p5).set (β := w2.heap.size) (by omega) 3 (.int .i64 V)).set (β := w.heap.size) (by omega) 0 (.string K)).set (β := w.heap.size) (by omega) 1 (.string ⟨#[]⟩)).set (β := w.heap.size) (by omega) 2 (.int .i64 m)).set (β := w.heap.size) (by omega) 3 (.int .i64 V)
    refine bodyPost_ret (v := .agg #[.string K, .string ⟨#[]⟩, .int .i64 m, .int .i64 V]) ?_ rfl ⟨rfl, hR, hO2⟩
    simp [results, Try.results31, go_sem, y0, y1, y2, y3]
end Go.Proofs.Ytjmmfpolkkglaaa.Pages
