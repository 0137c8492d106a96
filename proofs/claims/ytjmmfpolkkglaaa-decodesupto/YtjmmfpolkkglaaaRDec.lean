/-
  What the reference's Decode answers.
-/
import Derived.Test.YtjmmfpolkkglaaaRSmall
import Derived.Test.YtjmmfpolkkglaaaEncLaw0
import Derived.Test.YtjmmfpolkkglaaaKeep
import Derived.Deep.DeepCutAuto
import Derived.Deep.RegionWith
import Derived.Deep.CutBlock
import Derived.Deep.RegionLaw
namespace Go.Proofs.Ytjmmfpolkkglaaa.Pages
open Go.RowKit
set_option linter.unusedSimpArgs false
set_option linter.unusedVariables false

/-- a page in its box, its rows, and the reader behind it -/
def RMade (w1 wx : World) (ρ : Nat) (P : Pg) (F : RS) : Prop := ∃ (vk vi ve : Value), wx.heap[w1.heap.size]? = some (.cells #[.int .i64 P.kind, .int .i64 P.ver, .int .i64 P.root, .int .i64 P.next, vk, vi, ve, .string P.data] 28) ∧
  Keys wx (w1.heap.size + 1) vk P.keys ∧ Ints wx (w1.heap.size + 1) vi P.kids ∧ EntsR wx (w1.heap.size + 1) ve P.ents ∧ RAt wx ρ F ∧ Only ρ w1 wx
theorem RAt.only {w w' : World} {ρ β : Nat} {s : RS} (h : RAt w ρ s) (hb : Below β w w') (hl : ρ < β) : RAt w' ρ s := ⟨(hb.block ρ hl).trans h.1, h.2⟩
theorem rs0_at (s : ByteArray) (w : World) : RAt ((w.alloc page0).alloc (.cells #[.string (s.extract 0 252), .bool false] 63)) (w.heap.size + 1) (rs0 s) := by
  have e : s.extract 0 252 = strB (s.data.toList.take 252) := by
    conv => lhs; rw [← strB_data s]
    exact str_take _ _
  refine ⟨?_, by simp [rs0]; omega⟩
  have h := heap_new (w.alloc page0) (.cells #[.string (s.extract 0 252), .bool false] 63)
  rw [size_one] at h
  rw [h, e]
  rfl

/-- a branch, with its keys and kids so far -/
abbrev pageB (vk vi : Value) : Obj := .cells #[.int .i64 2, .int .i64 0, .int .i64 0, .int .i64 0, vk, vi, .slice none 0 0, .string ⟨#[]⟩] 28
set_option maxRecDepth 100000 in
set_option maxHeartbeats 4000000 in
theorem ref_decode_256 (s : ByteArray) (w : World) (hs : s.size = 256) (k : Nat) (hk : (rs0 s).one = k) (s1 : RS) (hs1 : (rs0 s).past 1 = s1) :
    Calls Try.prog 16 #[.string s] w fun e w' => Below w.heap.size w w' ∧
      (((s1.paged k).bad = false ∧ (s1.page k).encE = 0 ∧ (s1.page k).encS = s ∧ ∃ v, e = .returned (.tuple #[v, .int .i64 0]) ∧ PgAt w' w.heap.size (s1.page k) v) ∨
       (¬ ((s1.paged k).bad = false ∧ (s1.page k).encE = 0 ∧ (s1.page k).encS = s) ∧ e = .returned (.tuple #[.agg #[.int .i64 0, .int .i64 0, .int .i64 0, .int .i64 0, .slice none 0 0, .slice none 0 0, .slice none 0 0, .string ⟨#[]⟩], .int .i64 2]))) := by
  have h1 : ((s.size : Int) != 256) = false := by simp; omega
  have h2 : (252 : Int) ≤ (s.size : Int) := by omega
  have hR0 := rs0_at s w
  have hN := rnum_1 (w.heap.size + 1) (rs0 s) _ hR0
  have hsm := RS.page_small s1 k
  have hk256 := (one_of (rs0 s)).2
  rw [hk] at hN hk256
  rw [hs1] at hN
  have hZ0 := keep_alloc (x := .cells #[.string (s.extract 0 252), .bool false] 63) (heap_new w page0)
  have hB0 : Below w.heap.size w ((w.alloc page0).alloc (.cells #[.string (s.extract 0 252), .bool false] 63)) := ((Below.refl _ w).alloc (Nat.le_refl _) page0).alloc (by rw [size_one]; omega) _
  have hz0 : ((w.alloc page0).alloc (.cells #[.string (s.extract 0 252), .bool false] 63)).heap.size = w.heap.size + 1 + 1 := by rw [size_one, size_one]
  have HK : Hid ((rs0 s).one = k) := hk
  clear hs hk hs1 hR0
  obtain ⟨K, hK⟩ : ∃ K : Int, (k : Int) = K := ⟨_, rfl⟩
  rw [hK] at hN
  go_enter Try.func16, Try.ntmps16
  go_upto_region 5 with (go_at_call 29; refine hN.mono ?_; rintro e w1 ⟨rfl, r1, p1⟩)
  have hZ1 := p1.keep (by omega) hZ0
  have hB1 : Below w.heap.size w w1 := below_only hB0 p1 (by omega) (by omega)
  have hz1 : w.heap.size + 1 + 1 ≤ w1.heap.size := by rw [← hz0]; exact p1.size
  clear hZ0 hB0 p1 hN hz0
  have hP := heap_new w1 (pageK K)
  have r2 := r1.alloc (pageK K)
  have o2 := (Only.refl (w.heap.size + 1) w1).alloc (pageK K)
  have hz2 := size_one w1 (pageK K)
  generalize w1.alloc (pageK K) = w2 at hP r2 o2 hz2 ⊢
  clear r1
  obtain ⟨c0, c1, c2, c3, c4, c5, c6, c7⟩ := box8 hP
  go_upto_block 0 with fail
  go_cut [] (fun wx => RMade w1 wx (w.heap.size + 1) (s1.page k) (s1.paged k))
  case first =>
    have hne : w.heap.size + 1 ≠ w1.heap.size := by omega
    have hlt1 : w.heap.size + 1 < w1.heap.size + 1 := by omega
    clear hsm hZ1 hB1 h1 h2 hk256
    by_cases h1 : k = 1
    · subst h1
      obtain rfl : K = 1 := by omega
      have d1 := fun u h => rnum_any (w.heap.size + 1) s1 8 u h (by decide)
      obtain ⟨a, ha⟩ : ∃ a, numI (s1.bytes 8) = a := ⟨_, rfl⟩
      obtain ⟨s2, hs2⟩ : ∃ s2, s1.past 8 = s2 := ⟨_, rfl⟩
      rw [ha, hs2] at d1
      have d2 := fun u h => rnum_any (w.heap.size + 1) s2 2 u h (by decide)
      obtain ⟨b, hb⟩ : ∃ b, numI (s2.bytes 2) = b := ⟨_, rfl⟩
      obtain ⟨s3, hs3⟩ : ∃ s3, s2.past 2 = s3 := ⟨_, rfl⟩
      rw [hb, hs3] at d2
      have HP : Hid (s1.page 1 = ⟨1, a, b, 0, [], [], [], ⟨#[]⟩⟩) := by show _ = _; rw [RS.page_1, ha, hs2, hb]
      have HF : Hid (s1.paged 1 = s3) := by show _ = _; rw [RS.paged_1, hs2, hs3]
      clear ha hs2 hb hs3 hK
      go_upto_region 8 with (go_at_call 29; refine (d1 _ r2).mono ?_; rintro e w3 ⟨rfl, r3, p3⟩; have hP3 := p3.keep hne.symm hP; obtain ⟨e0, e1, e2, e3, e4, e5, e6, e7⟩ := box8 hP3; have hf3 := free_of hP3)
      have hP4 : (w3.setCell ⟨w1.heap.size, 1, none⟩ (.int .i64 a)).heap[w1.heap.size]? = some (.cells #[.int .i64 1, .int .i64 a, .int .i64 0, .int .i64 0, .slice none 0 0, .slice none 0 0, .slice none 0 0, .string ⟨#[]⟩] 28) := by simpa using set_of hP3 1 (.int .i64 a)
      have r4 := r3.set hne 1 (.int .i64 a)
      have o4 := (o2.trans p3).set (Nat.le_refl w1.heap.size) 1 (.int .i64 a)
      generalize w3.setCell ⟨w1.heap.size, 1, none⟩ (.int .i64 a) = w4 at hP4 r4 o4 ⊢
      go_wp2_with (go_at_call 29; refine (d2 _ r4).mono ?_; rintro e w5 ⟨rfl, r5, p5⟩; have hP5 := p5.keep hne.symm hP4; obtain ⟨g0, g1, g2, g3, g4, g5, g6, g7⟩ := box8 hP5; have hf5 := free_of hP5)
      go_meet
      rw [HP.out, HF.out]
      exact ⟨.slice none 0 0, .slice none 0 0, .slice none 0 0, by simpa using set_of hP5 2 (.int .i64 b), Keys.nil _ _, Ints.nil _ _, EntsR.nil _ _, r5.set hne 2 _, (o4.trans p5).set (Nat.le_refl _) 2 _⟩
    by_cases h4 : k = 4
    · subst h4
      obtain rfl : K = 4 := by omega
      have d1 := fun u h => rnum_any (w.heap.size + 1) s1 2 u h (by decide)
      obtain ⟨a, ha⟩ : ∃ a, numI (s1.bytes 2) = a := ⟨_, rfl⟩
      obtain ⟨s2, hs2⟩ : ∃ s2, s1.past 2 = s2 := ⟨_, rfl⟩
      rw [ha, hs2] at d1
      have d2 := fun u h => rnum_1 (w.heap.size + 1) s2 u h
      have hm2 := (one_of s2).2
      obtain ⟨m, hm⟩ : ∃ m, s2.one = m := ⟨_, rfl⟩
      obtain ⟨s3, hs3⟩ : ∃ s3, s2.past 1 = s3 := ⟨_, rfl⟩
      rw [hm] at d2 hm2
      rw [hs3] at d2
      have d3 := fun u h => rbytes_any (w.heap.size + 1) s3 m u h (by omega)
      obtain ⟨D, hD⟩ : ∃ D, strB (s3.bytes m) = D := ⟨_, rfl⟩
      obtain ⟨s4, hs4⟩ : ∃ s4, s3.past m = s4 := ⟨_, rfl⟩
      rw [hD, hs4] at d3
      have ek : s2.key = D := by unfold RS.key; rw [hs3, hm, hD]
      have ed : s2.keyed = s4 := by unfold RS.keyed; rw [hs3, hm, hs4]
      have HP : Hid (s1.page 4 = ⟨4, 0, 0, a, [], [], [], D⟩) := by show _ = _; rw [RS.page_4, ha, hs2, ek]
      have HF : Hid (s1.paged 4 = s4) := by show _ = _; rw [RS.paged_4, hs2, ed]
      clear ha hs2 hm hs3 hD hs4 ek ed hK
      go_upto_region 30 with (go_at_call 29; refine (d1 _ r2).mono ?_; rintro e w3 ⟨rfl, r3, p3⟩; have hP3 := p3.keep hne.symm hP; obtain ⟨e0, e1, e2, e3, e4, e5, e6, e7⟩ := box8 hP3; have hf3 := free_of hP3)
      have hP4 : (w3.setCell ⟨w1.heap.size, 3, none⟩ (.int .i64 a)).heap[w1.heap.size]? = some (.cells #[.int .i64 4, .int .i64 0, .int .i64 0, .int .i64 a, .slice none 0 0, .slice none 0 0, .slice none 0 0, .string ⟨#[]⟩] 28) := by simpa using set_of hP3 3 (.int .i64 a)
      have r4 := r3.set hne 3 (.int .i64 a)
      have o4 := (o2.trans p3).set (Nat.le_refl w1.heap.size) 3 (.int .i64 a)
      generalize w3.setCell ⟨w1.heap.size, 3, none⟩ (.int .i64 a) = w4 at hP4 r4 o4 ⊢
      go_wp2_with (first | (go_at_call 29; refine (d2 _ r4).mono ?_; rintro e w5 ⟨rfl, r5, p5⟩; have hP5 := p5.keep hne.symm hP4) | (go_at_call 30; refine (d3 _ r5).mono ?_; rintro e w6 ⟨rfl, r6, p6⟩; have hP6 := p6.keep hne.symm hP5; obtain ⟨g0, g1, g2, g3, g4, g5, g6, g7⟩ := box8 hP6; have hf6 := free_of hP6))
      go_meet
      rw [HP.out, HF.out]
      exact ⟨.slice none 0 0, .slice none 0 0, .slice none 0 0, by simpa using set_of hP6 7 (.string D), Keys.nil _ _, Ints.nil _ _, EntsR.nil _ _, r6.set hne 7 _, ((o4.trans p5).trans p6).set (Nat.le_refl _) 7 _⟩
    by_cases h2 : k = 2
    · subst h2
      obtain rfl : K = 2 := by omega
      have d1 := fun u h => rnum_1 (w.heap.size + 1) s1 u h
      have hm2 := (one_of s1).2
      obtain ⟨m, hm⟩ : ∃ m, s1.one = m := ⟨_, rfl⟩
      obtain ⟨s2, hs2⟩ : ∃ s2, s1.past 1 = s2 := ⟨_, rfl⟩
      rw [hm] at d1 hm2
      rw [hs2] at d1
      obtain ⟨KI, hKI⟩ : ∃ KI, s2.kids (m + 1) = KI := ⟨_, rfl⟩
      obtain ⟨s3, hs3⟩ : ∃ s3, s2.pastKids (m + 1) = s3 := ⟨_, rfl⟩
      obtain ⟨KE, hKE⟩ : ∃ KE, s3.keys m = KE := ⟨_, rfl⟩
      obtain ⟨s4, hs4⟩ : ∃ s4, s3.pastKeys m = s4 := ⟨_, rfl⟩
      have HP : Hid (s1.page 2 = ⟨2, 0, 0, 0, KE, KI, [], ⟨#[]⟩⟩) := by show _ = _; rw [RS.page_2, hm, hs2, hKI, hs3, hKE]
      have HF : Hid (s1.paged 2 = s4) := by show _ = _; rw [RS.paged_2, hm, hs2, hs3, hs4]
      have HKI : Hid (s2.kids (m + 1) = KI) := hKI
      have HS3 : Hid (s2.pastKids (m + 1) = s3) := hs3
      have HKE : Hid (s3.keys m = KE) := hKE
      have HS4 : Hid (s3.pastKeys m = s4) := hs4
      clear hm hs2 hKI hs3 hKE hs4 hK
      go_wp2_with (go_at_call 29; refine (d1 _ r2).mono ?_; rintro e w3 ⟨rfl, r3, p3⟩; have hP3 := p3.keep hne.symm hP)
      have o3 := o2.trans p3
      go_loopw [7, 8] (fun i x wr => ∃ (j : Nat) (done : List Int) (vi : Value) (sj : RS), j ≤ m + 1 ∧ i = .int .i64 j ∧ wr.heap[w1.heap.size]? = some (pageB (.slice none 0 0) vi) ∧ Ints wr (w1.heap.size + 1) vi done ∧ RAt wr (w.heap.size + 1) sj ∧ Only (w.heap.size + 1) w1 wr ∧ Hid (done.length = j) ∧ Hid (KI = done ++ sj.kids (m + 1 - j)) ∧ Hid (s3 = sj.pastKids (m + 1 - j))) (fun i _ _ => m + 1 - (intOf i).toNat)
      case atStart => exact ⟨0, [], .slice none 0 0, s2, Nat.zero_le _, rfl, hP3, Ints.nil _ _, r3, o3, rfl, HKI.out.symm, HS3.out.symm⟩
      case round =>
        clear hP3 r3 o3 p3 hP r2 o2 HKI HS3 c0 c1 c2 c3 c4 c5 c6 c7
        obtain ⟨j, done, vi, sj, hj, rfl, hE, hI, hr, ho, hdl, HD, HSJ⟩ := hrel
        obtain ⟨ia, ic, rfl, _⟩ := own_row hI
        by_cases hlt : j < m + 1
        · have d2 := rnum_any (w.heap.size + 1) sj 2 wr hr (by decide)
          obtain ⟨q, hq⟩ : ∃ q, numI (sj.bytes 2) = q := ⟨_, rfl⟩
          obtain ⟨sn, hsn⟩ : ∃ sn, sj.past 2 = sn := ⟨_, rfl⟩
          rw [hq, hsn] at d2
          have HD2 : Hid (KI = (done ++ [q]) ++ sn.kids (m + 1 - (j + 1))) := by
            show _ = _
            rw [HD.out, show m + 1 - j = (m + 1 - (j + 1)) + 1 by omega, RS.kids, hq, hsn, List.append_assoc]
            rfl
          have HSJ2 : Hid (s3 = sn.pastKids (m + 1 - (j + 1))) := by
            show _ = _
            rw [HSJ.out, show m + 1 - j = (m + 1 - (j + 1)) + 1 by omega, RS.pastKids, hsn]
          clear hq hsn HD HSJ
          have lk : done.length + 1 ≤ 4294967296 := by rw [hdl.out]; omega
          have hsz : w1.heap.size + 1 ≤ wr.heap.size := (Array.getElem?_eq_some_iff.1 hE).1
          go_wp2_with (first
            | (go_at_call 29; refine d2.mono ?_; rintro e w4 ⟨rfl, r4, p4⟩; have hE4 := p4.keep hne.symm hE; have hI4 : Ints w4 (w1.heap.size + 1) (.slice ia done.length ic) done := own_only hI p4 hlt1; have hs4 : w1.heap.size + 1 ≤ w4.heap.size := Nat.le_trans hsz p4.size; obtain ⟨b0, b1, b2, b3, b4, b5, b6, b7⟩ := box8 hE4)
            | (at_builtin; refine wp_append_int w4 rfl (.tmp 50) (.tmp 52) rfl (w1.heap.size + 1) done (.slice ia done.length ic) rfl hI4 hs4 q rfl lk ?_; intro v5 w5 hI5 hb5; obtain ⟨ia5, ic5, rfl, _⟩ := own_row hI5; have hE5 := (hb5.block w1.heap.size (Nat.lt_succ_self _)).trans hE4; obtain ⟨q0, q1, q2, q3, q4, q5, q6, q7⟩ := box8 hE5; have hf5 := free_of hE5))
          have hlen : (done ++ [q]).length = done.length + 1 := by simp
          have hB5 := set_of hE5 5 (.slice ia5 (done ++ [q]).length ic5)
          have hI6 : Ints (w5.setCell ⟨w1.heap.size, 5, none⟩ (.slice ia5 (done ++ [q]).length ic5)) (w1.heap.size + 1) (.slice ia5 (done ++ [q]).length ic5) (done ++ [q]) := own_only hI5 ((Only.refl w1.heap.size w5).setCell 5 (.slice ia5 (done ++ [q]).length ic5)) (Nat.lt_succ_self _)
          have hR6 := (r4.only hb5 hlt1).set hne 5 (.slice ia5 (done ++ [q]).length ic5)
          have hO6 := ((ho.trans p4).below hb5 (Nat.le_succ _)).set (Nat.le_refl w1.heap.size) 5 (.slice ia5 (done ++ [q]).length ic5)
          rw [hlen] at hB5 hI6 hR6 hO6
          have hdl2 : Hid ((done ++ [q]).length = j + 1) := by show _ = _; rw [hlen, hdl.out]
          clear hlen
          go_roundw
          case rel => exact ⟨j + 1, done ++ [q], _, sn, by omega, by go_num, by simpa using hB5, hI6, hR6, hO6, hdl2, HD2, HSJ2⟩
          case measure => simp [intOf]; omega
        · obtain rfl : j = m + 1 := by omega
          have hD : KI = done := by rw [HD.out, Nat.sub_self, RS.kids, List.append_nil]
          have hS : s3 = sj := by rw [HSJ.out, Nat.sub_self, RS.pastKids]
          subst hD
          subst hS
          clear HD HSJ hj hlt
          obtain ⟨w3', hw3⟩ : ∃ w3', w3' = wr := ⟨_, rfl⟩
          subst hw3
          go_wp2
          go_loopw [9, 10, 11] (fun i x y wr => ∃ (j : Nat) (done : List ByteArray) (vk : Value) (sj : RS), j ≤ m ∧ i = .int .i64 j ∧ wr.heap[w1.heap.size]? = some (pageB vk (.slice ia KI.length ic)) ∧ Keys wr (w1.heap.size + 1) vk done ∧ Ints wr (w1.heap.size + 1) (.slice ia KI.length ic) KI ∧ RAt wr (w.heap.size + 1) sj ∧ Only (w.heap.size + 1) w1 wr ∧ Hid (done.length = j) ∧ Hid (KE = done ++ sj.keys (m - j)) ∧ Hid (s4 = sj.pastKeys (m - j))) (fun i _ _ _ => m - (intOf i).toNat)
          case atStart => exact ⟨0, [], .slice none 0 0, s3, Nat.zero_le _, rfl, hE, Keys.nil _ _, hI, hr, ho, rfl, HKE.out.symm, HS4.out.symm⟩
          case round =>
            clear hE hI hr ho HKE HS4 hdl
            obtain ⟨j, done, vk, sj, hj, rfl, hE, hK, hI, hr, ho, hdl, HD, HSJ⟩ := hrel
            obtain ⟨ka, kc, rfl, _⟩ := own_row hK
            by_cases hlt : j < m
            · have d2 := rnum_1 (w.heap.size + 1) sj wr hr
              have hn2 := (one_of sj).2
              obtain ⟨n, hn⟩ : ∃ n, sj.one = n := ⟨_, rfl⟩
              obtain ⟨st, hst⟩ : ∃ st, sj.past 1 = st := ⟨_, rfl⟩
              rw [hn] at d2 hn2
              rw [hst] at d2
              have d3 := fun u h => rbytes_any (w.heap.size + 1) st n u h (by omega)
              obtain ⟨q, hq⟩ : ∃ q, strB (st.bytes n) = q := ⟨_, rfl⟩
              obtain ⟨sn, hsn⟩ : ∃ sn, st.past n = sn := ⟨_, rfl⟩
              rw [hq, hsn] at d3
              have ek : sj.key = q := by unfold RS.key; rw [hst, hn, hq]
              have ed : sj.keyed = sn := by unfold RS.keyed; rw [hst, hn, hsn]
              have HD2 : Hid (KE = (done ++ [q]) ++ sn.keys (m - (j + 1))) := by
                show _ = _
                rw [HD.out, show m - j = (m - (j + 1)) + 1 by omega, RS.keys, ek, ed, List.append_assoc]
                rfl
              have HSJ2 : Hid (s4 = sn.pastKeys (m - (j + 1))) := by
                show _ = _
                rw [HSJ.out, show m - j = (m - (j + 1)) + 1 by omega, RS.pastKeys, ed]
              clear hq hsn hn hst ek ed HD HSJ
              have lk : done.length + 1 ≤ 4294967296 := by rw [hdl.out]; omega
              have hsz : w1.heap.size + 1 ≤ wr.heap.size := (Array.getElem?_eq_some_iff.1 hE).1
              go_wp2_with (first
                | (go_at_call 29; refine d2.mono ?_; rintro e w4 ⟨rfl, r4, p4⟩; have hE4 := p4.keep hne.symm hE; have hK4 : Keys w4 (w1.heap.size + 1) (.slice ka done.length kc) done := own_only hK p4 hlt1; have hI4 : Ints w4 (w1.heap.size + 1) (.slice ia KI.length ic) KI := own_only hI p4 hlt1; have hs4 : w1.heap.size + 1 ≤ w4.heap.size := Nat.le_trans hsz p4.size)
                | (go_at_call 30; refine (d3 _ r4).mono ?_; rintro e w5 ⟨rfl, r5, p5⟩; have hE5 := p5.keep hne.symm hE4; have hK5 : Keys w5 (w1.heap.size + 1) (.slice ka done.length kc) done := own_only hK4 p5 hlt1; have hI5 : Ints w5 (w1.heap.size + 1) (.slice ia KI.length ic) KI := own_only hI4 p5 hlt1; have hs5 : w1.heap.size + 1 ≤ w5.heap.size := Nat.le_trans hs4 p5.size; obtain ⟨b0, b1, b2, b3, b4, b5, b6, b7⟩ := box8 hE5)
                | (at_builtin; refine wp_append_key2 w5 rfl (.tmp 66) (.tmp 68) rfl (w1.heap.size + 1) done (.slice ka done.length kc) rfl hK5 hs5 q rfl lk ?_; intro v6 w6 hK6 hb6 hk6; obtain ⟨ka6, kc6, rfl, _⟩ := own_row hK6; have hI6 : Ints w6 (w1.heap.size + 1) (.slice ia KI.length ic) KI := hk6 _ _ _ _ _ _ (by decide) hI5; have hE6 := (hb6.block w1.heap.size (Nat.lt_succ_self _)).trans hE5; obtain ⟨q0, q1, q2, q3, q4, q5, q6, q7⟩ := box8 hE6; have hf6 := free_of hE6))
              have hlen : (done ++ [q]).length = done.length + 1 := by simp
              have hB7 := set_of hE6 4 (.slice ka6 (done ++ [q]).length kc6)
              have hK7 : Keys (w6.setCell ⟨w1.heap.size, 4, none⟩ (.slice ka6 (done ++ [q]).length kc6)) (w1.heap.size + 1) (.slice ka6 (done ++ [q]).length kc6) (done ++ [q]) := own_only hK6 ((Only.refl w1.heap.size w6).setCell 4 (.slice ka6 (done ++ [q]).length kc6)) (Nat.lt_succ_self _)
              have hI7 : Ints (w6.setCell ⟨w1.heap.size, 4, none⟩ (.slice ka6 (done ++ [q]).length kc6)) (w1.heap.size + 1) (.slice ia KI.length ic) KI := own_only hI6 ((Only.refl w1.heap.size w6).setCell 4 (.slice ka6 (done ++ [q]).length kc6)) (Nat.lt_succ_self _)
              have hR7 := (r5.only hb6 hlt1).set hne 4 (.slice ka6 (done ++ [q]).length kc6)
              have hO7 := (((ho.trans p4).trans p5).below hb6 (Nat.le_succ _)).set (Nat.le_refl w1.heap.size) 4 (.slice ka6 (done ++ [q]).length kc6)
              rw [hlen] at hB7 hK7 hI7 hR7 hO7
              have hdl2 : Hid ((done ++ [q]).length = j + 1) := by show _ = _; rw [hlen, hdl.out]
              clear hlen
              go_roundw
              case rel => first | exact ⟨j + 1, done ++ [q], _, sn, by omega, by go_num, by simpa using hB7, hK7, hI7, hR7, hO7, hdl2, HD2, HSJ2⟩ | ((repeat apply Exists.intro); exact ⟨⟨j + 1, done ++ [q], _, sn, by omega, by go_num, by simpa using hB7, hK7, hI7, hR7, hO7, hdl2, HD2, HSJ2⟩, rfl⟩)
              case measure => simp [intOf]; omega
            · obtain rfl : j = m := by omega
              have hD : KE = done := by rw [HD.out, Nat.sub_self, RS.keys, List.append_nil]
              have hS : s4 = sj := by rw [HSJ.out, Nat.sub_self, RS.pastKeys]
              subst hD
              subst hS
              clear HD HSJ hj hlt
              go_wp2
              go_meet
              rw [HP.out, HF.out]
              exact ⟨_, _, .slice none 0 0, hE, hK, hI, EntsR.nil _ _, hr, ho⟩
    by_cases h3 : k = 3
    · subst h3
      obtain rfl : K = 3 := by omega
      have d1 := fun u h => rnum_1 (w.heap.size + 1) s1 u h
      have hm2 := (one_of s1).2
      obtain ⟨m, hm⟩ : ∃ m, s1.one = m := ⟨_, rfl⟩
      obtain ⟨s2, hs2⟩ : ∃ s2, s1.past 1 = s2 := ⟨_, rfl⟩
      rw [hm] at d1 hm2
      rw [hs2] at d1
      obtain ⟨ES, hES⟩ : ∃ ES, s2.ents m = ES := ⟨_, rfl⟩
      obtain ⟨s3, hs3⟩ : ∃ s3, s2.pastEnts m = s3 := ⟨_, rfl⟩
      have HP : Hid (s1.page 3 = ⟨3, 0, 0, 0, [], [], ES, ⟨#[]⟩⟩) := by show _ = _; rw [RS.page_3, hm, hs2, hES]
      have HF : Hid (s1.paged 3 = s3) := by show _ = _; rw [RS.paged_3, hm, hs2, hs3]
      have HES : Hid (s2.ents m = ES) := hES
      have HS3 : Hid (s2.pastEnts m = s3) := hs3
      clear hm hs2 hES hs3 hK
      go_wp2_with (go_at_call 29; refine (d1 _ r2).mono ?_; rintro e w3 ⟨rfl, r3, p3⟩; have hP3 := p3.keep hne.symm hP)
      have o3 := o2.trans p3
      go_loopw [12, 13] (fun i x wr => ∃ (j : Nat) (done : List Ent) (ve : Value) (sj : RS), j ≤ m ∧ i = .int .i64 j ∧ wr.heap[w1.heap.size]? = some (pageE ve) ∧ EntsR wr (w1.heap.size + 1) ve done ∧ RAt wr (w.heap.size + 1) sj ∧ Only (w.heap.size + 1) w1 wr ∧ Hid (done.length + j = m) ∧ Hid (ES = done ++ sj.ents j) ∧ Hid (s3 = sj.pastEnts j)) (fun i _ _ => (intOf i).toNat)
      case atStart => exact ⟨m, [], .slice none 0 0, s2, Nat.le_refl _, rfl, hP3, EntsR.nil _ _, r3, o3, by show _ = _; simp, HES.out.symm, HS3.out.symm⟩
      case round =>
        clear hP3 r3 o3 p3 hP r2 o2 HES HS3 c0 c1 c2 c3 c4 c5 c6 c7
        obtain ⟨j, done, ve, sj, hj, rfl, hE, hI, hr, ho, hdl, HD, HSJ⟩ := hrel
        obtain ⟨ea, ec, rfl⟩ := hI.slice
        cases j with
        | succ j =>
          have d2 := rentry_any (w.heap.size + 1) sj wr hr
          obtain ⟨q, hq⟩ : ∃ q, sj.ent = q := ⟨_, rfl⟩
          obtain ⟨sn, hsn⟩ : ∃ sn, sj.ented = sn := ⟨_, rfl⟩
          rw [hq, hsn] at d2
          have HD2 : Hid (ES = (done ++ [q]) ++ sn.ents j) := by
            show _ = _
            rw [HD.out, RS.ents, hq, hsn, List.append_assoc]
            rfl
          have HSJ2 : Hid (s3 = sn.pastEnts j) := by
            show _ = _
            rw [HSJ.out, RS.pastEnts, hsn]
          clear hq hsn HD HSJ
          have lk : done.length + 1 ≤ 4294967296 := by have := hdl.out; omega
          have hsz : w1.heap.size + 1 ≤ wr.heap.size := (Array.getElem?_eq_some_iff.1 hE).1
          go_upto_region 27 with (go_at_call 31; refine d2.mono ?_; rintro e w4 ⟨rfl, r4, p4⟩)
          have hE4 := keep_alloc (x := .cells #[.string q.key, .string q.val, .int .i64 q.size, .int .i64 q.over] 52) (p4.keep hne.symm hE)
          have hI4 := (hI.only p4 hlt1).alloc (.cells #[.string q.key, .string q.val, .int .i64 q.size, .int .i64 q.over] 52)
          have hY4 := heap_new w4 (.cells #[.string q.key, .string q.val, .int .i64 q.size, .int .i64 q.over] 52)
          have r5 := r4.alloc (.cells #[.string q.key, .string q.val, .int .i64 q.size, .int .i64 q.over] 52)
          have o5 := (ho.trans p4).alloc (.cells #[.string q.key, .string q.val, .int .i64 q.size, .int .i64 q.over] 52)
          have hs4 : w1.heap.size + 1 ≤ (w4.alloc (.cells #[.string q.key, .string q.val, .int .i64 q.size, .int .i64 q.over] 52)).heap.size := by rw [size_one]; have := p4.size; omega
          generalize w4.alloc (.cells #[.string q.key, .string q.val, .int .i64 q.size, .int .i64 q.over] 52) = w5 at hE4 hI4 hY4 r5 o5 hs4 ⊢
          obtain ⟨b0, b1, b2, b3, b4, b5, b6, b7⟩ := box8 hE4
          obtain ⟨y0, y1, y2, y3⟩ := box4 hY4
          go_wp2_with (at_builtin; refine wp_append_ent w5 rfl (.tmp 82) (.tmp 84) rfl (w1.heap.size + 1) done (.slice ea done.length ec) rfl hI4 hs4 q rfl lk ?_; intro v6 w6 hI6 hb6; obtain ⟨ea6, ec6, rfl⟩ := hI6.slice; have hE6 := (hb6.block w1.heap.size (Nat.lt_succ_self _)).trans hE4; obtain ⟨q0, q1, q2, q3, q4, q5, q6, q7⟩ := box8 hE6; have hf6 := free_of hE6)
          have hlen : (done ++ [q]).length = done.length + 1 := by simp
          have hB7 := set_of hE6 6 (.slice ea6 (done ++ [q]).length ec6)
          have hI7 := hI6.set (Nat.lt_succ_self w1.heap.size) 6 (.slice ea6 (done ++ [q]).length ec6)
          have hR7 := (r5.only hb6 hlt1).set hne 6 (.slice ea6 (done ++ [q]).length ec6)
          have hO7 := (o5.below hb6 (Nat.le_succ _)).set (Nat.le_refl w1.heap.size) 6 (.slice ea6 (done ++ [q]).length ec6)
          rw [hlen] at hB7 hI7 hR7 hO7
          have hdl2 : Hid ((done ++ [q]).length + j = m) := by show _ = _; rw [hlen]; have := hdl.out; omega
          clear hlen
          go_roundw
          case rel => exact ⟨j, done ++ [q], _, sn, by omega, by go_num, by simpa using hB7, hI7, hR7, hO7, hdl2, HD2, HSJ2⟩
          case measure => simp [intOf]
        | zero =>
          have hD : ES = done := by rw [HD.out, RS.ents, List.append_nil]
          have hS : s3 = sj := by rw [HSJ.out, RS.pastEnts]
          subst hD
          subst hS
          clear HD HSJ hj
          go_wp2
          go_meet
          rw [HP.out, HF.out]
          exact ⟨.slice none 0 0, .slice none 0 0, _, hE, Keys.nil _ _, Ints.nil _ _, hI, hr, ho⟩
    · have HP : Hid (s1.page k = ⟨K, 0, 0, 0, [], [], [], ⟨#[]⟩⟩) := by show _ = _; rw [RS.page_n s1 h1 h2 h3 h4, hK]
      have HF : Hid (s1.paged k = s1) := RS.paged_n s1 h1 h2 h3 h4
      have g1 : (K == 1) = false := by simp; omega
      have g2 : (K == 2) = false := by simp; omega
      have g3 : (K == 3) = false := by simp; omega
      have g4 : (K == 4) = false := by simp; omega
      clear h1 h2 h3 h4 hK
      go_wp2
      go_meet
      rw [HP.out, HF.out]
      exact ⟨.slice none 0 0, .slice none 0 0, .slice none 0 0, hP, Keys.nil _ _, Ints.nil _ _, EntsR.nil _ _, r2, o2⟩
  case rest =>
    clear hP r2 o2 c0 c1 c2 c3 c4 c5 c6 c7 h1 h2 hk256 hK
    obtain ⟨vk, vi, ve, hX, hKs, hIs, hEs, hr, ho⟩ := hcut
    have hZc := ho.keep (by omega) hZ1
    have hBc : Below w.heap.size w wc := below_only hB1 ho (by omega) (by omega)
    have hxl : w1.heap.size < wc.heap.size := (Array.getElem?_eq_some_iff.1 hX).1
    obtain ⟨hsm1, hsm2⟩ := hsm
    obtain ⟨P, hPP⟩ : ∃ P, s1.page k = P := ⟨_, rfl⟩
    obtain ⟨F, hFF⟩ : ∃ F, s1.paged k = F := ⟨_, rfl⟩
    rw [hPP] at hX hKs hIs hEs hsm1
    rw [hFF] at hr
    have hsm3 : ∀ (j : Nat) (hj : j < P.keys.length), P.keys[j].size ≤ 1073741824 := by rw [← hPP]; exact hsm2
    have HPP : Hid (s1.page k = P) := hPP
    have HFF : Hid (s1.paged k = F) := hFF
    clear hPP hFF hsm2
    obtain ⟨ka, kc, rfl, rk⟩ := own_row hKs
    obtain ⟨ia, ic, rfl, ri⟩ := own_row hIs
    obtain ⟨ea, ec, rfl, re⟩ := own_row hEs
    have hEn := ref_encode_any P.kind P.ver P.root P.next ka ia ea kc ic ec P.data P.keys P.kids P.ents wc rk ri re hsm1 hsm3
    obtain ⟨SS, hSS⟩ : ∃ SS, Pages.encS P.kind P.ver P.root P.next P.keys P.kids P.ents P.data = SS := ⟨_, rfl⟩
    obtain ⟨EE, hEE⟩ : ∃ EE, Pages.encE P.kind P.ver P.root P.next P.keys P.kids P.ents P.data = EE := ⟨_, rfl⟩
    rw [hSS, hEE] at hEn
    have HS : Hid (P.encS = SS) := hSS
    have HE : Hid (P.encE = EE) := hEE
    obtain ⟨c0, c1, c2, c3, c4, c5, c6, c7⟩ := box8 hX
    clear hSS hEE hsm1 hsm3
    by_cases hgood : F.bad = false ∧ EE = 0 ∧ SS = s
    · obtain ⟨g1, rfl, rfl⟩ := hgood
      have e3 : (SS.toList == SS.toList) = true := by simp
      go_upto_region 35 with (go_at_call 13; refine hEn.mono ?_; rintro e w5 ⟨rfl, hb5⟩; have hr5 := hr.only hb5 (by omega); obtain ⟨z0, z1⟩ := box2 hr5.1; rw [g1] at z1)
      have hX5 := (hb5.block w1.heap.size hxl).trans hX
      have hZ5 := (hb5.block w.heap.size (by omega)).trans hZc
      obtain ⟨d0, d1, d2, d3, d4, d5, d6, d7⟩ := box8 hX5
      obtain ⟨f0, f1, f2, f3, f4, f5, f6, f7⟩ := box8 hZ5
      have hf5 := free_of hZ5
      have hU := set8r hZ5 (.int .i64 P.kind) (.int .i64 P.ver) (.int .i64 P.root) (.int .i64 P.next) (.slice ka P.keys.length kc) (.slice ia P.kids.length ic) (.slice ea P.ents.length ec) (.string P.data)
      obtain ⟨y0, y1, y2, y3, y4, y5, y6, y7⟩ := box8 hU
      have hlz : w.heap.size < w1.heap.size + 1 := by omega
      have hK5 : Keys w5 _ _ _ := hKs.below hb5
      have hI5 : Ints w5 _ _ _ := own_only hIs (Only.of_below (ρ := 0) hb5) (by omega)
      have hE5 : EntsR w5 _ _ _ := hEs.only (Only.of_below (ρ := 0) hb5) (by omega)
      have hB5 := below8r (hBc.trans (hb5.mono (by omega))) (β := w.heap.size) (Nat.le_refl _) (.int .i64 P.kind) (.int .i64 P.ver) (.int .i64 P.root) (.int .i64 P.next) (.slice ka P.keys.length kc) (.slice ia P.kids.length ic) (.slice ea P.ents.length ec) (.string P.data)
      have hK6 : Keys _ w.heap.size _ _ := own_mono (own_set8 hK5 hlz (.int .i64 P.kind) (.int .i64 P.ver) (.int .i64 P.root) (.int .i64 P.next) (.slice ka P.keys.length kc) (.slice ia P.kids.length ic) (.slice ea P.ents.length ec) (.string P.data)) (by omega)
      have hI6 : Ints _ w.heap.size _ _ := own_mono (own_set8 hI5 hlz (.int .i64 P.kind) (.int .i64 P.ver) (.int .i64 P.root) (.int .i64 P.next) (.slice ka P.keys.length kc) (.slice ia P.kids.length ic) (.slice ea P.ents.length ec) (.string P.data)) (by omega)
      have hE6 : EntsR _ w.heap.size _ _ := ((((((((hE5.set hlz 0 (.int .i64 P.kind)).set hlz 1 (.int .i64 P.ver)).set hlz 2 (.int .i64 P.root)).set hlz 3 (.int .i64 P.next)).set hlz 4 (.slice ka P.keys.length kc)).set hlz 5 (.slice ia P.kids.length ic)).set hlz 6 (.slice ea P.ents.length ec)).set hlz 7 (.string P.data)).mono (by omega)
      clear hK5 hI5 hE5
      go_wp2
      have hPP := HPP.out
      have hFF := HFF.out
      subst hPP
      subst hFF
      refine bodyPost_ret (v := .tuple #[.agg #[.int .i64 (s1.page k).kind, .int .i64 (s1.page k).ver, .int .i64 (s1.page k).root, .int .i64 (s1.page k).next, .slice ka (s1.page k).keys.length kc, .slice ia (s1.page k).kids.length ic, .slice ea (s1.page k).ents.length ec, .string (s1.page k).data], .int .i64 0]) ?_ rfl ⟨hB5, .inl ⟨g1, HE.out, HS.out, _, rfl, ⟨_, _, _, rfl, hK6, hI6, hE6⟩⟩⟩
      simp [results, Try.results16, go_sem, y0, y1, y2, y3, y4, y5, y6, y7]
    · have HG : Hid (¬ (F.bad = false ∧ P.encE = 0 ∧ P.encS = s)) := by show ¬ _; rw [HE.out, HS.out]; exact hgood
      have main : ∀ (w5 : World), Below wc.heap.size wc w5 → True := fun _ _ => trivial
      clear main
      cases hbad : F.bad
      · by_cases hee : EE = 0
        · have hne : SS ≠ s := fun h => hgood ⟨hbad, hee, h⟩
          have e3 : (SS.toList == s.toList) = false := list_ne hne
          subst hee
          clear hgood hne
          go_upto_region 34 with (go_at_call 13; refine hEn.mono ?_; rintro e w5 ⟨rfl, hb5⟩; have hr5 := hr.only hb5 (by omega); obtain ⟨z0, z1⟩ := box2 hr5.1; rw [hbad] at z1)
          have hZ5 := (hb5.block w.heap.size (by omega)).trans hZc
          obtain ⟨f0, f1, f2, f3, f4, f5, f6, f7⟩ := box8 hZ5
          have hf5 := free_of hZ5
          have hU := set8r hZ5 (.int .i64 0) (.int .i64 0) (.int .i64 0) (.int .i64 0) (.slice none 0 0) (.slice none 0 0) (.slice none 0 0) (.string ⟨#[]⟩)
          obtain ⟨y0, y1, y2, y3, y4, y5, y6, y7⟩ := box8 hU
          have hB5 := below8r (hBc.trans (hb5.mono (by omega))) (β := w.heap.size) (Nat.le_refl _) (.int .i64 0) (.int .i64 0) (.int .i64 0) (.int .i64 0) (.slice none 0 0) (.slice none 0 0) (.slice none 0 0) (.string ⟨#[]⟩)
          go_wp2
          (have hPP := HPP.out; have hFF := HFF.out; subst hPP; subst hFF)
          refine bodyPost_ret (v := .tuple #[.agg #[.int .i64 0, .int .i64 0, .int .i64 0, .int .i64 0, .slice none 0 0, .slice none 0 0, .slice none 0 0, .string ⟨#[]⟩], .int .i64 2]) ?_ rfl ⟨hB5, .inr ⟨by first | exact HG.out | (rw [hbad] at HG; exact HG.out), rfl⟩⟩
          simp [results, Try.results16, go_sem, y0, y1, y2, y3, y4, y5, y6, y7]
        · have e2 : (EE != 0) = true := by simpa using hee
          clear hgood
          go_upto_region 34 with (go_at_call 13; refine hEn.mono ?_; rintro e w5 ⟨rfl, hb5⟩; have hr5 := hr.only hb5 (by omega); obtain ⟨z0, z1⟩ := box2 hr5.1; rw [hbad] at z1)
          have hZ5 := (hb5.block w.heap.size (by omega)).trans hZc
          obtain ⟨f0, f1, f2, f3, f4, f5, f6, f7⟩ := box8 hZ5
          have hf5 := free_of hZ5
          have hU := set8r hZ5 (.int .i64 0) (.int .i64 0) (.int .i64 0) (.int .i64 0) (.slice none 0 0) (.slice none 0 0) (.slice none 0 0) (.string ⟨#[]⟩)
          obtain ⟨y0, y1, y2, y3, y4, y5, y6, y7⟩ := box8 hU
          have hB5 := below8r (hBc.trans (hb5.mono (by omega))) (β := w.heap.size) (Nat.le_refl _) (.int .i64 0) (.int .i64 0) (.int .i64 0) (.int .i64 0) (.slice none 0 0) (.slice none 0 0) (.slice none 0 0) (.string ⟨#[]⟩)
          go_wp2
          (have hPP := HPP.out; have hFF := HFF.out; subst hPP; subst hFF)
          refine bodyPost_ret (v := .tuple #[.agg #[.int .i64 0, .int .i64 0, .int .i64 0, .int .i64 0, .slice none 0 0, .slice none 0 0, .slice none 0 0, .string ⟨#[]⟩], .int .i64 2]) ?_ rfl ⟨hB5, .inr ⟨by first | exact HG.out | (rw [hbad] at HG; exact HG.out), rfl⟩⟩
          simp [results, Try.results16, go_sem, y0, y1, y2, y3, y4, y5, y6, y7]
      · clear hgood
        go_upto_region 34 with (go_at_call 13; refine hEn.mono ?_; rintro e w5 ⟨rfl, hb5⟩; have hr5 := hr.only hb5 (by omega); obtain ⟨z0, z1⟩ := box2 hr5.1; rw [hbad] at z1)
        have hZ5 := (hb5.block w.heap.size (by omega)).trans hZc
        obtain ⟨f0, f1, f2, f3, f4, f5, f6, f7⟩ := box8 hZ5
        have hf5 := free_of hZ5
        have hU := set8r hZ5 (.int .i64 0) (.int .i64 0) (.int .i64 0) (.int .i64 0) (.slice none 0 0) (.slice none 0 0) (.slice none 0 0) (.string ⟨#[]⟩)
        obtain ⟨y0, y1, y2, y3, y4, y5, y6, y7⟩ := box8 hU
        have hB5 := below8r (hBc.trans (hb5.mono (by omega))) (β := w.heap.size) (Nat.le_refl _) (.int .i64 0) (.int .i64 0) (.int .i64 0) (.int .i64 0) (.slice none 0 0) (.slice none 0 0) (.slice none 0 0) (.string ⟨#[]⟩)
        go_wp2
        (have hPP := HPP.out; have hFF := HFF.out; subst hPP; subst hFF)
        refine bodyPost_ret (v := .tuple #[.agg #[.int .i64 0, .int .i64 0, .int .i64 0, .int .i64 0, .slice none 0 0, .slice none 0 0, .slice none 0 0, .string ⟨#[]⟩], .int .i64 2]) ?_ rfl ⟨hB5, .inr ⟨by first | exact HG.out | (rw [hbad] at HG; exact HG.out), rfl⟩⟩
        simp [results, Try.results16, go_sem, y0, y1, y2, y3, y4, y5, y6, y7]
end Go.Proofs.Ytjmmfpolkkglaaa.Pages
