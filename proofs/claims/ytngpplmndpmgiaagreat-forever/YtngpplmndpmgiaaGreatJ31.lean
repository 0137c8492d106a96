/-
  Joined: GrowN.
-/
import Derived.Test.YtngpplmndpmgiaaGreatJ30
namespace Go.Proofs.YtngpplmndpmgiaaGreat.Tree
open Go.RowKit Go.Proofs.YtngpplmndpmgiaaGreat.Pages
set_option linter.unusedSimpArgs false
set_option linter.unusedVariables false
set_option maxRecDepth 100000 in
set_option maxHeartbeats 1000000 in
theorem growN_any (m : Nat) (w : World) (hn : m ≤ 4000000) :
    Calls Tryz.prog 188 #[.slice none 0 0, .int .i64 m] w fun e w' => ∃ v, e = .returned v ∧ w'.ownsRow 0 220 5 v 0 [] ∧ Below w.heap.size w w' ∧ ∀ k, v.ownBlock = some k → w.heap.size ≤ k := by
  go_enter Tryz.func188, Tryz.ntmps188
  by_cases hm : 0 < m
  · have hmi : (0 : Int) < (m : Int) := by omega
    go_wp2_with (at_builtin; refine wp_grow w rfl (.tmp 20) (.tmp 21) 217 3 220 _ 5 88 rfl Tryz.underlying217 Tryz.underlying3 infoNode rfl (by decide) m rfl rfl hm (by omega) (by omega) ?_; intro c w2 hc ho2 hf2)
    go_ret
    exact ⟨_, rfl, ho2, hf2.below0, by simp [Value.ownBlock]⟩
  · obtain rfl : m = 0 := by omega
    go_wp2
    go_ret
    exact ⟨_, rfl, World.ownsRow_nil _ _ _ _, Below.refl _ _, by simp [Value.ownBlock]⟩
set_option maxRecDepth 100000 in
set_option maxHeartbeats 2000000 in
theorem concatN_any (qs : List (Pc MN)) (ga : Option Addr) (gc : Nat) (S : Bl) (w : World) (hR : RowOn w S ga (qs.map Pc.val)) (hq : ∀ q ∈ qs, q.l.length ≤ q.c ∧ RowOn w S q.a (ncells q.l)) (hS : ∀ b, S b → b < w.heap.size) (hn : lens qs ≤ 1000000) (hql : qs.length ≤ 1000000) (hgc : qs.length ≤ gc) :
    Calls Tryz.prog 186 #[.slice ga qs.length gc] w fun e w' => ∃ v, e = .returned v ∧ w'.ownsRow 0 220 5 v (lens qs) (ncells (qs.flatMap (·.l))) ∧ Below w.heap.size w w' ∧ ∀ k, v.ownBlock = some k → w.heap.size ≤ k := by
  have hG := growN_any (lens qs) w (by omega)
  go_enter Tryz.func186, Tryz.ntmps186
  go_wp2
  go_loopw [3, 11] (fun a b wr => ∃ j : Nat, a = .int .i64 (lens (qs.take j)) ∧ b = .int .i64 j ∧ j ≤ qs.length ∧ wr = w) (fun _ b _ => qs.length - (intOf b).toNat)
  case atStart => exact ⟨0, by simp [lens], rfl, Nat.zero_le _, rfl⟩
  case round =>
    obtain ⟨j, rfl, rfl, hj, hwr⟩ := hrel
    subst wr
    by_cases hlt : j < qs.length
    · obtain ⟨Q, hQ⟩ : ∃ Q, qs[j] = Q := ⟨_, rfl⟩
      obtain ⟨gb, go, hga, hgb, hcell⟩ := hR.val (j := j) (u := .slice Q.a Q.l.length Q.c) (by rw [List.getElem?_map, List.getElem?_eq_getElem hlt, hQ]; rfl)
      subst hga
      have hle1 := lens_le qs (j + 1)
      have htk := lens_take1 qs j hlt
      rw [hQ] at htk
      obtain ⟨n, hn'⟩ : ∃ n, lens (qs.take j) = n := ⟨_, rfl⟩
      rw [hn'] at htk
      obtain ⟨m, hm'⟩ : ∃ m, Q.l.length = m := ⟨_, rfl⟩
      rw [hm'] at htk hcell
      have hnm : n + m ≤ 1000000 := by omega
      have HTK : Hid (lens (qs.take (j + 1)) = n + m) := htk
      simp only [hn']
      clear htk hle1 hn' hm' hQ hG hR hq
      have hnn : ¬ ((n : Int) + (m : Int) < 0) := by omega
      go_wp2
      go_roundw
      case rel => exact ⟨j + 1, by rw [HTK.out]; congr 1, by go_num, by omega, by first | trivial | rfl⟩
      case measure => simp [intOf]; omega
    · obtain rfl : j = qs.length := by omega
      have HTL : Hid (qs.take qs.length = qs) := List.take_length
      simp only [List.take_length]
      obtain ⟨N, hN⟩ : ∃ N, lens qs = N := ⟨_, rfl⟩
      have HN : Hid (lens qs = N) := hN
      rw [hN] at hG hn
      simp only [hN]
      clear hN
      go_wp2_with (go_at_call 188; refine hG.mono ?_; clear hG; rintro e w1 ⟨v, rfl, ho1, hb1, hl1⟩)
      go_loopw [6, 27] (fun a b wr => ∃ j : Nat, b = .int .i64 j ∧ j ≤ qs.length ∧ wr.ownsRow 0 220 5 a (lens (qs.take j)) (ncells ((qs.take j).flatMap (·.l))) ∧ Below w.heap.size w wr ∧ ∀ k, a.ownBlock = some k → w.heap.size ≤ k) (fun _ b _ => qs.length - (intOf b).toNat)
      case atStart => exact ⟨0, rfl, Nat.zero_le _, by simpa [lens, ncells] using ho1, hb1, hl1⟩
      case round =>
        obtain ⟨j, rfl, hj2, ho, hb, hk⟩ := hrel
        obtain ⟨aa, ac, rfl⟩ := own_shape ho
        by_cases hlt2 : j < qs.length
        · obtain ⟨Q, hQ⟩ : ∃ Q, qs[j] = Q := ⟨_, rfl⟩
          have hQm : Q ∈ qs := hQ ▸ List.getElem_mem hlt2
          obtain ⟨gb, go, hga, hgb, hcell⟩ := (hR.on (On.of_below hb hS)).val (j := j) (u := .slice Q.a Q.l.length Q.c) (by rw [List.getElem?_map, List.getElem?_eq_getElem hlt2, hQ]; rfl)
          subst hga
          have hle1 := lens_le qs (j + 1)
          have htk := lens_take1 qs j hlt2
          rw [hQ] at htk
          have htk2 : (qs.take (j + 1)).flatMap (·.l) = (qs.take j).flatMap (·.l) ++ Q.l := by rw [List.take_succ_eq_append_getElem hlt2, hQ]; simp
          obtain ⟨n, hn'⟩ : ∃ n, lens (qs.take j) = n := ⟨_, rfl⟩
          rw [hn'] at htk ho
          simp only [hn'] at hk
          have hle2 : n + Q.l.length ≤ 1000000 := by have := HN.out; omega
          have HTK : Hid (lens (qs.take (j + 1)) = n + Q.l.length) := htk
          have HTK2 : Hid (ncells ((qs.take (j + 1)).flatMap (·.l)) = ncells ((qs.take j).flatMap (·.l)) ++ ncells Q.l) := by show _ = _; rw [htk2, ncells_append]
          simp only [hn']
          have hQr := (hq Q hQm).2.on (On.of_below hb hS)
          clear htk htk2 hle1 hn' hQ
          obtain ⟨Qa, Qc, Ql⟩ := Q
          simp only at hcell hle2 hQr HTK HTK2
          by_cases hl0 : 0 < Ql.length
          · obtain ⟨rb, ro, rfl, hrb⟩ := hQr.addr (ncells_ne hl0)
            have hnews : ∀ i u, (ncells Ql)[i]? = some u → wr.cell? ((⟨rb, ro, none⟩ : Addr).add i) = some u := by
              intro i u hu
              obtain ⟨b, off, hbo, _, hc⟩ := hQr.val hu
              simp only [Option.some.injEq, Addr.mk.injEq, and_true] at hbo
              obtain ⟨rfl, rfl⟩ := hbo
              have e : (⟨rb, ro, none⟩ : Addr).add i = ⟨rb, ro + i, none⟩ := by unfold Addr.add; split <;> simp_all
              rw [e]; exact hc
            go_wp2_with (at_builtin; refine wp_app wr rfl (.tmp 31) (.tmp 32) 217 220 _ 5 88 rfl Tryz.underlying217 infoNode rfl (by decide) (.slice aa n ac) n (ncells ((qs.take j).flatMap (·.l))) rfl ho ⟨rb, ro, none⟩ Ql.length Qc (ncells Ql) rfl (ncells_len Ql) hnews (ncells_one Ql) (by omega) (by omega) ?_; intro v3 w3 A3; obtain ⟨g3, k3, rfl⟩ := A3.shape hl0)
            go_roundw
            case rel =>
              refine ⟨j + 1, by go_num, by omega, by rw [HTK.out, HTK2.out]; exact A3.row, hb.trans (A3.fr.below hb.size hk), ?_⟩
              intro k h
              rcases A3.lies k h with h | h
              · exact hk k h
              · exact Nat.le_trans hb.size h
            case measure => simp [intOf]; omega
          · obtain rfl := List.eq_nil_of_length_eq_zero (by omega : Ql.length = 0)
            simp only [List.length_nil] at hcell
            go_wp2_with (at_builtin; refine wp_app0 wr rfl (.tmp 31) (.tmp 32) 217 220 _ 5 88 rfl Tryz.underlying217 infoNode (.slice aa n ac) n (ncells ((qs.take j).flatMap (·.l))) rfl ho Qa Qc rfl ?_)
            go_roundw
            case rel => exact ⟨j + 1, by go_num, by omega, by rw [HTK.out, HTK2.out]; simpa [ncells] using ho, hb, hk⟩
            case measure => simp [intOf]; omega
        · obtain rfl : j = qs.length := by omega
          simp only [List.take_length] at ho hk ⊢
          go_wp2
          go_ret
          exact ⟨_, rfl, ho, hb, hk⟩
theorem below_step {B : Nat} {W a wn : World} (hJ : Below B W a) (hW : B ≤ W.heap.size) (hbn : Below a.heap.size a wn) : Below B W wn := hJ.trans (hbn.mono (Nat.le_trans hW hJ.size))
set_option maxRecDepth 100000 in
set_option maxHeartbeats 2000000 in
theorem tooSmall_any (m : MN) (es : List En) (ms : List MN) (S : Bl) (w : World) (he : m.en = es.length) (hk : m.kn = ms.length) (hec : es.length ≤ m.ec) (hkc : ms.length ≤ m.kc) (hR : RowOn w S m.ea (ecells es)) (hN : RowOn w S m.ka (ncells ms)) (hS : ∀ b, S b → b < w.heap.size) (hn : es.length ≤ 1000000) (hn2 : ms.length ≤ 1000000) (hf : ∀ x ∈ es, x.fits) (hf2 : ∀ x ∈ ms, x.fits) :
    Calls Tryz.prog 180 #[m.val] w fun e w' => e = .returned (.bool (m.place == 0 && decide (tot esz es + tot ksz ms < 62))) ∧ Below w.heap.size w w' := by
  obtain ⟨lo, hi, pl, ea, en, ec, ka, kn, kc⟩ := m
  simp only at he hk hec hkc hR hN
  subst he hk
  obtain ⟨W1, hW1⟩ : ∃ W1, w.alloc (.cells #[.string lo, .string hi, .int .i64 pl, .slice ea es.length ec, .slice ka ms.length kc] 220) = W1 := ⟨_, rfl⟩
  have b1 : Below w.heap.size w W1 := hW1 ▸ (Below.refl _ _).alloc (Nat.le_refl _) _
  have x1 : W1.heap[w.heap.size]? = some (.cells #[.string lo, .string hi, .int .i64 pl, .slice ea es.length ec, .slice ka ms.length kc] 220) := hW1 ▸ heap_new w _
  obtain ⟨m0, m1, m2, m3, m4⟩ := box5 x1
  have z1 := (Array.getElem?_eq_some_iff.1 x1).1
  have hte : tot esz es ≤ 427000000 := by have := tot_le esz es 427 (fun x hx => esz_fits (hf x hx)); omega
  have htk : tot ksz ms ≤ 27000000 := by have := tot_le ksz ms 27 (fun x hx => ksz_fits (hf2 x hx)); omega
  have hS1 : ∀ b, S b → b < W1.heap.size := fun b h => Nat.lt_of_lt_of_le (hS b h) b1.size
  have hA : ∀ W, Below w.heap.size w W → Calls Tryz.prog 177 #[.slice ea es.length ec, .func (.func 168) #[] #[]] W fun e w' => e = .returned (.int .i64 (tot esz es)) ∧ Below W.heap.size W w' := fun W hW => totalE_any ea ec es S W (hR.on (On.of_below hW hS)) (fun b h => Nat.lt_of_lt_of_le (hS b h) hW.size) hn hec hf
  have hB : ∀ W, Below w.heap.size w W → Calls Tryz.prog 182 #[.slice ka ms.length kc, .func (.func 173) #[] #[]] W fun e w' => e = .returned (.int .i64 (tot ksz ms)) ∧ Below W.heap.size W w' := fun W hW => totalN_any ka kc ms S W (hN.on (On.of_below hW hS)) (fun b h => Nat.lt_of_lt_of_le (hS b h) hW.size) hn2 hkc hf2
  obtain ⟨te, hte'⟩ : ∃ te, tot esz es = te := ⟨_, rfl⟩
  obtain ⟨tk, htk'⟩ : ∃ tk, tot ksz ms = tk := ⟨_, rfl⟩
  simp only [hte', htk'] at hte htk hA hB ⊢
  clear hte' htk'
  have hA' := hA
  have hB' := hB
  clear hA hB
  have hJw : ∀ W, Below (w.heap.size + 1) W1 W → Below w.heap.size w W := fun W h => b1.trans (h.mono (Nat.le_succ _))
  have hA := fun W h => hA' W (hJw W h)
  have hB := fun W h => hB' W (hJw W h)
  clear hA' hB'
  have hWz : w.heap.size + 1 ≤ W1.heap.size := z1
  have hJ : Below (w.heap.size + 1) W1 W1 := Below.refl _ _
  go_enter Tryz.func180, Tryz.ntmps180
  by_cases hp : pl = 0
  · have hpb : ((pl : Int) == 0) = true := by simp [hp]
    have hpc : (pl == 0) = true := by simp [hp]
    clear hp
    by_cases hlt : te + tk < 62
    · have HW : Hid (decide (IntKind.i64.wrap ((te : Int) + (tk : Int)) < 62) = true) := by show _ = _; rw [IntKind.wrap_i64, decide_eq_true_iff]; · omega
      have HD : Hid ((pl == 0 && decide (te + tk < 62)) = true) := by show _ = _; simp [hpc, hlt]
      go_wp2
      go_region_with (first | (go_at_call 177; refine (hA _ (by first | exact hJ | exact hJ.drew | exact hJ.drew.drew)).mono ?_; rintro e wn ⟨rfl, hbn⟩; have hJ : Below (w.heap.size + 1) W1 wn := (by first | exact below_step hJ hWz hbn | exact below_step hJ.drew hWz hbn | exact below_step hJ.drew.drew hWz hbn); obtain ⟨e0, e1, e2, e3, e4⟩ := box5 ((hJ.block w.heap.size (Nat.lt_succ_self _)).trans x1)) | (go_at_call 182; refine (hB _ (by first | exact hJ | exact hJ.drew | exact hJ.drew.drew)).mono ?_; rintro e wn ⟨rfl, hbn⟩; have hJ : Below (w.heap.size + 1) W1 wn := (by first | exact below_step hJ hWz hbn | exact below_step hJ.drew hWz hbn | exact below_step hJ.drew.drew hWz hbn); obtain ⟨e0, e1, e2, e3, e4⟩ := box5 ((hJ.block w.heap.size (Nat.lt_succ_self _)).trans x1)))
      all_goals go_wp2
      all_goals go_ret
      all_goals exact ⟨by rw [HD.out]; exact congrArg (fun b => Ending.returned (Value.bool b)) HW.out, hJw _ (by first | exact hJ | exact hJ.drew | exact hJ.drew.drew)⟩
    · have HW : Hid (decide (IntKind.i64.wrap ((te : Int) + (tk : Int)) < 62) = false) := by show _ = _; rw [IntKind.wrap_i64, decide_eq_false_iff_not]; · omega
      have HD : Hid ((pl == 0 && decide (te + tk < 62)) = false) := by show _ = _; simp [hpc, hlt]
      go_wp2
      go_region_with (first | (go_at_call 177; refine (hA _ (by first | exact hJ | exact hJ.drew | exact hJ.drew.drew)).mono ?_; rintro e wn ⟨rfl, hbn⟩; have hJ : Below (w.heap.size + 1) W1 wn := (by first | exact below_step hJ hWz hbn | exact below_step hJ.drew hWz hbn | exact below_step hJ.drew.drew hWz hbn); obtain ⟨e0, e1, e2, e3, e4⟩ := box5 ((hJ.block w.heap.size (Nat.lt_succ_self _)).trans x1)) | (go_at_call 182; refine (hB _ (by first | exact hJ | exact hJ.drew | exact hJ.drew.drew)).mono ?_; rintro e wn ⟨rfl, hbn⟩; have hJ : Below (w.heap.size + 1) W1 wn := (by first | exact below_step hJ hWz hbn | exact below_step hJ.drew hWz hbn | exact below_step hJ.drew.drew hWz hbn); obtain ⟨e0, e1, e2, e3, e4⟩ := box5 ((hJ.block w.heap.size (Nat.lt_succ_self _)).trans x1)))
      all_goals go_wp2
      all_goals go_ret
      all_goals exact ⟨by rw [HD.out]; exact congrArg (fun b => Ending.returned (Value.bool b)) HW.out, hJw _ (by first | exact hJ | exact hJ.drew | exact hJ.drew.drew)⟩
  · have hpb : ((pl : Int) == 0) = false := by simp [hp]
    have HD : Hid ((pl == 0 && decide (te + tk < 62)) = false) := by show _ = _; simp [hp]
    clear hp
    go_wp2
    go_region
    all_goals go_wp2
    all_goals go_ret
    all_goals exact ⟨by rw [HD.out]; rfl, hJw _ (by first | exact hJ | exact hJ.drew | exact hJ.drew.drew)⟩
end Go.Proofs.YtngpplmndpmgiaaGreat.Tree
