/-
  Joined: GrowN, Nods, Leave2, Search, Search2, Tell, Loose.
-/
import Derived.Test.YtngpplmndpmgiaaGreatJ10
import Derived.Test.YtngpplmndpmgiaaGreatJ7
import Derived.Test.YtngpplmndpmgiaaGreatJ5
import Derived.Test.YtngpplmndpmgiaaGreatJ8
import Derived.Laws.Rows
import Derived.Laws.BitsAllLaws
namespace Go.Proofs.YtngpplmndpmgiaaGreat.Tree
open Go.RowKit Go.Proofs.YtngpplmndpmgiaaGreat.Pages
set_option linter.unusedSimpArgs false
set_option linter.unusedVariables false
set_option maxRecDepth 100000 in
set_option maxHeartbeats 1000000 in
theorem growN_any (m : Nat) (w : World) (hn : m ≤ 4000000) :
    Calls Tryz.prog 188 #[.slice none 0 0, .int .i64 m] w fun e w' => ∃ v, e = .returned v ∧ w'.ownsRow 0 220 5 v 0 [] ∧ Below w.heap.size w w' ∧ ∀ k, v.ownBlock = some k → w.heap.size ≤ k := by
  go_enter Tryz.func188, Tryz.ntmps188
  by_cases hm : 0 < m
  · have hmi : (0 : Int) < (m : Int) := by omega
    go_wp2_with (at_builtin; refine wp_grow w rfl (.tmp 20) (.tmp 21) 217 3 220 _ 5 88 rfl Tryz.underlying217 Tryz.underlying3 infoNode rfl (by decide) m rfl rfl hm (by omega) (by omega) ?_; intro c w2 hc ho2 hf2)
    go_ret
    exact ⟨_, rfl, ho2, hf2.below0, by simp [Value.ownBlock]⟩
  · obtain rfl : m = 0 := by omega
    go_wp2
    go_ret
    exact ⟨_, rfl, World.ownsRow_nil _ _ _ _, Below.refl _ _, by simp [Value.ownBlock]⟩
set_option maxRecDepth 100000 in
set_option maxHeartbeats 2000000 in
theorem concatN_any (qs : List (Pc MN)) (ga : Option Addr) (gc : Nat) (S : Bl) (w : World) (hR : RowOn w S ga (qs.map Pc.val)) (hq : ∀ q ∈ qs, q.l.length ≤ q.c ∧ RowOn w S q.a (ncells q.l)) (hS : ∀ b, S b → b < w.heap.size) (hn : lens qs ≤ 1000000) (hql : qs.length ≤ 1000000) (hgc : qs.length ≤ gc) :
    Calls Tryz.prog 186 #[.slice ga qs.length gc] w fun e w' => ∃ v, e = .returned v ∧ w'.ownsRow 0 220 5 v (lens qs) (ncells (qs.flatMap (·.l))) ∧ Below w.heap.size w w' ∧ ∀ k, v.ownBlock = some k → w.heap.size ≤ k := by
  have hG := growN_any (lens qs) w (by omega)
  go_enter Tryz.func186, Tryz.ntmps186
  go_wp2
  go_loopw [3, 11] (fun a b wr => ∃ j : Nat, a = .int .i64 (lens (qs.take j)) ∧ b = .int .i64 j ∧ j ≤ qs.length ∧ wr = w) (fun _ b _ => qs.length - (intOf b).toNat)
  case atStart => exact ⟨0, by simp [lens], rfl, Nat.zero_le _, rfl⟩
  case round =>
    obtain ⟨j, rfl, rfl, hj, hwr⟩ := hrel
    subst wr
    by_cases hlt : j < qs.length
    · obtain ⟨Q, hQ⟩ : ∃ Q, qs[j] = Q := ⟨_, rfl⟩
      obtain ⟨gb, go, hga, hgb, hcell⟩ := hR.val (j := j) (u := .slice Q.a Q.l.length Q.c) (by rw [List.getElem?_map, List.getElem?_eq_getElem hlt, hQ]; rfl)
      subst hga
      have hle1 := lens_le qs (j + 1)
      have htk := lens_take1 qs j hlt
      rw [hQ] at htk
      obtain ⟨n, hn'⟩ : ∃ n, lens (qs.take j) = n := ⟨_, rfl⟩
      rw [hn'] at htk
      obtain ⟨m, hm'⟩ : ∃ m, Q.l.length = m := ⟨_, rfl⟩
      rw [hm'] at htk hcell
      have hnm : n + m ≤ 1000000 := by omega
      have HTK : Hid (lens (qs.take (j + 1)) = n + m) := htk
      simp only [hn']
      clear htk hle1 hn' hm' hQ hG hR hq
      have hnn : ¬ ((n : Int) + (m : Int) < 0) := by omega
      go_wp2
      go_roundw
      case rel => exact ⟨j + 1, by rw [HTK.out]; congr 1, by go_num, by omega, by first | trivial | rfl⟩
      case measure => simp [intOf]; omega
    · obtain rfl : j = qs.length := by omega
      have HTL : Hid (qs.take qs.length = qs) := List.take_length
      simp only [List.take_length]
      obtain ⟨N, hN⟩ : ∃ N, lens qs = N := ⟨_, rfl⟩
      have HN : Hid (lens qs = N) := hN
      rw [hN] at hG hn
      simp only [hN]
      clear hN
      go_wp2_with (go_at_call 188; refine hG.mono ?_; clear hG; rintro e w1 ⟨v, rfl, ho1, hb1, hl1⟩)
      go_loopw [6, 27] (fun a b wr => ∃ j : Nat, b = .int .i64 j ∧ j ≤ qs.length ∧ wr.ownsRow 0 220 5 a (lens (qs.take j)) (ncells ((qs.take j).flatMap (·.l))) ∧ Below w.heap.size w wr ∧ ∀ k, a.ownBlock = some k → w.heap.size ≤ k) (fun _ b _ => qs.length - (intOf b).toNat)
      case atStart => exact ⟨0, rfl, Nat.zero_le _, by simpa [lens, ncells] using ho1, hb1, hl1⟩
      case round =>
        obtain ⟨j, rfl, hj2, ho, hb, hk⟩ := hrel
        obtain ⟨aa, ac, rfl⟩ := own_shape ho
        by_cases hlt2 : j < qs.length
        · obtain ⟨Q, hQ⟩ : ∃ Q, qs[j] = Q := ⟨_, rfl⟩
          have hQm : Q ∈ qs := hQ ▸ List.getElem_mem hlt2
          obtain ⟨gb, go, hga, hgb, hcell⟩ := (hR.on (On.of_below hb hS)).val (j := j) (u := .slice Q.a Q.l.length Q.c) (by rw [List.getElem?_map, List.getElem?_eq_getElem hlt2, hQ]; rfl)
          subst hga
          have hle1 := lens_le qs (j + 1)
          have htk := lens_take1 qs j hlt2
          rw [hQ] at htk
          have htk2 : (qs.take (j + 1)).flatMap (·.l) = (qs.take j).flatMap (·.l) ++ Q.l := by rw [List.take_succ_eq_append_getElem hlt2, hQ]; simp
          obtain ⟨n, hn'⟩ : ∃ n, lens (qs.take j) = n := ⟨_, rfl⟩
          rw [hn'] at htk ho
          simp only [hn'] at hk
          have hle2 : n + Q.l.length ≤ 1000000 := by have := HN.out; omega
          have HTK : Hid (lens (qs.take (j + 1)) = n + Q.l.length) := htk
          have HTK2 : Hid (ncells ((qs.take (j + 1)).flatMap (·.l)) = ncells ((qs.take j).flatMap (·.l)) ++ ncells Q.l) := by show _ = _; rw [htk2, ncells_append]
          simp only [hn']
          have hQr := (hq Q hQm).2.on (On.of_below hb hS)
          clear htk htk2 hle1 hn' hQ
          obtain ⟨Qa, Qc, Ql⟩ := Q
          simp only at hcell hle2 hQr HTK HTK2
          by_cases hl0 : 0 < Ql.length
          · obtain ⟨rb, ro, rfl, hrb⟩ := hQr.addr (ncells_ne hl0)
            have hnews : ∀ i u, (ncells Ql)[i]? = some u → wr.cell? ((⟨rb, ro, none⟩ : Addr).add i) = some u := by
              intro i u hu
              obtain ⟨b, off, hbo, _, hc⟩ := hQr.val hu
              simp only [Option.some.injEq, Addr.mk.injEq, and_true] at hbo
              obtain ⟨rfl, rfl⟩ := hbo
              have e : (⟨rb, ro, none⟩ : Addr).add i = ⟨rb, ro + i, none⟩ := by unfold Addr.add; split <;> simp_all
              rw [e]; exact hc
            go_wp2_with (at_builtin; refine wp_app wr rfl (.tmp 31) (.tmp 32) 217 220 _ 5 88 rfl Tryz.underlying217 infoNode rfl (by decide) (.slice aa n ac) n (ncells ((qs.take j).flatMap (·.l))) rfl ho ⟨rb, ro, none⟩ Ql.length Qc (ncells Ql) rfl (ncells_len Ql) hnews (ncells_one Ql) (by omega) (by omega) ?_; intro v3 w3 A3; obtain ⟨g3, k3, rfl⟩ := A3.shape hl0)
            go_roundw
            case rel =>
              refine ⟨j + 1, by go_num, by omega, by rw [HTK.out, HTK2.out]; exact A3.row, hb.trans (A3.fr.below hb.size hk), ?_⟩
              intro k h
              rcases A3.lies k h with h | h
              · exact hk k h
              · exact Nat.le_trans hb.size h
            case measure => simp [intOf]; omega
          · obtain rfl := List.eq_nil_of_length_eq_zero (by omega : Ql.length = 0)
            simp only [List.length_nil] at hcell
            go_wp2_with (at_builtin; refine wp_app0 wr rfl (.tmp 31) (.tmp 32) 217 220 _ 5 88 rfl Tryz.underlying217 infoNode (.slice aa n ac) n (ncells ((qs.take j).flatMap (·.l))) rfl ho Qa Qc rfl ?_)
            go_roundw
            case rel => exact ⟨j + 1, by go_num, by omega, by rw [HTK.out, HTK2.out]; simpa [ncells] using ho, hb, hk⟩
            case measure => simp [intOf]; omega
        · obtain rfl : j = qs.length := by omega
          simp only [List.take_length] at ho hk ⊢
          go_wp2
          go_ret
          exact ⟨_, rfl, ho, hb, hk⟩
theorem below_step {B : Nat} {W a wn : World} (hJ : Below B W a) (hW : B ≤ W.heap.size) (hbn : Below a.heap.size a wn) : Below B W wn := hJ.trans (hbn.mono (Nat.le_trans hW hJ.size))
set_option maxRecDepth 100000 in
set_option maxHeartbeats 2000000 in
theorem tooSmall_any (m : MN) (es : List En) (ms : List MN) (S : Bl) (w : World) (he : m.en = es.length) (hk : m.kn = ms.length) (hec : es.length ≤ m.ec) (hkc : ms.length ≤ m.kc) (hR : RowOn w S m.ea (ecells es)) (hN : RowOn w S m.ka (ncells ms)) (hS : ∀ b, S b → b < w.heap.size) (hn : es.length ≤ 1000000) (hn2 : ms.length ≤ 1000000) (hf : ∀ x ∈ es, x.fits) (hf2 : ∀ x ∈ ms, x.fits) :
    Calls Tryz.prog 180 #[m.val] w fun e w' => e = .returned (.bool (m.place == 0 && decide (tot esz es + tot ksz ms < 62))) ∧ Below w.heap.size w w' := by
  obtain ⟨lo, hi, pl, ea, en, ec, ka, kn, kc⟩ := m
  simp only at he hk hec hkc hR hN
  subst he hk
  obtain ⟨W1, hW1⟩ : ∃ W1, w.alloc (.cells #[.string lo, .string hi, .int .i64 pl, .slice ea es.length ec, .slice ka ms.length kc] 220) = W1 := ⟨_, rfl⟩
  have b1 : Below w.heap.size w W1 := hW1 ▸ (Below.refl _ _).alloc (Nat.le_refl _) _
  have x1 : W1.heap[w.heap.size]? = some (.cells #[.string lo, .string hi, .int .i64 pl, .slice ea es.length ec, .slice ka ms.length kc] 220) := hW1 ▸ heap_new w _
  obtain ⟨m0, m1, m2, m3, m4⟩ := box5 x1
  have z1 := (Array.getElem?_eq_some_iff.1 x1).1
  have hte : tot esz es ≤ 427000000 := by have := tot_le esz es 427 (fun x hx => esz_fits (hf x hx)); omega
  have htk : tot ksz ms ≤ 27000000 := by have := tot_le ksz ms 27 (fun x hx => ksz_fits (hf2 x hx)); omega
  have hS1 : ∀ b, S b → b < W1.heap.size := fun b h => Nat.lt_of_lt_of_le (hS b h) b1.size
  have hA : ∀ W, Below w.heap.size w W → Calls Tryz.prog 177 #[.slice ea es.length ec, .func (.func 168) #[] #[]] W fun e w' => e = .returned (.int .i64 (tot esz es)) ∧ Below W.heap.size W w' := fun W hW => totalE_any ea ec es S W (hR.on (On.of_below hW hS)) (fun b h => Nat.lt_of_lt_of_le (hS b h) hW.size) hn hec hf
  have hB : ∀ W, Below w.heap.size w W → Calls Tryz.prog 182 #[.slice ka ms.length kc, .func (.func 173) #[] #[]] W fun e w' => e = .returned (.int .i64 (tot ksz ms)) ∧ Below W.heap.size W w' := fun W hW => totalN_any ka kc ms S W (hN.on (On.of_below hW hS)) (fun b h => Nat.lt_of_lt_of_le (hS b h) hW.size) hn2 hkc hf2
  obtain ⟨te, hte'⟩ : ∃ te, tot esz es = te := ⟨_, rfl⟩
  obtain ⟨tk, htk'⟩ : ∃ tk, tot ksz ms = tk := ⟨_, rfl⟩
  simp only [hte', htk'] at hte htk hA hB ⊢
  clear hte' htk'
  have hA' := hA
  have hB' := hB
  clear hA hB
  have hJw : ∀ W, Below (w.heap.size + 1) W1 W → Below w.heap.size w W := fun W h => b1.trans (h.mono (Nat.le_succ _))
  have hA := fun W h => hA' W (hJw W h)
  have hB := fun W h => hB' W (hJw W h)
  clear hA' hB'
  have hWz : w.heap.size + 1 ≤ W1.heap.size := z1
  have hJ : Below (w.heap.size + 1) W1 W1 := Below.refl _ _
  go_enter Tryz.func180, Tryz.ntmps180
  by_cases hp : pl = 0
  · have hpb : ((pl : Int) == 0) = true := by simp [hp]
    have hpc : (pl == 0) = true := by simp [hp]
    clear hp
    by_cases hlt : te + tk < 62
    · have HW : Hid (decide (IntKind.i64.wrap ((te : Int) + (tk : Int)) < 62) = true) := by show _ = _; rw [IntKind.wrap_i64, decide_eq_true_iff]; · omega
      have HD : Hid ((pl == 0 && decide (te + tk < 62)) = true) := by show _ = _; simp [hpc, hlt]
      go_wp2
      go_region_with (first | (go_at_call 177; refine (hA _ (by first | exact hJ | exact hJ.drew | exact hJ.drew.drew)).mono ?_; rintro e wn ⟨rfl, hbn⟩; have hJ : Below (w.heap.size + 1) W1 wn := (by first | exact below_step hJ hWz hbn | exact below_step hJ.drew hWz hbn | exact below_step hJ.drew.drew hWz hbn); obtain ⟨e0, e1, e2, e3, e4⟩ := box5 ((hJ.block w.heap.size (Nat.lt_succ_self _)).trans x1)) | (go_at_call 182; refine (hB _ (by first | exact hJ | exact hJ.drew | exact hJ.drew.drew)).mono ?_; rintro e wn ⟨rfl, hbn⟩; have hJ : Below (w.heap.size + 1) W1 wn := (by first | exact below_step hJ hWz hbn | exact below_step hJ.drew hWz hbn | exact below_step hJ.drew.drew hWz hbn); obtain ⟨e0, e1, e2, e3, e4⟩ := box5 ((hJ.block w.heap.size (Nat.lt_succ_self _)).trans x1)))
      all_goals go_wp2
      all_goals go_ret
      all_goals exact ⟨by rw [HD.out]; exact congrArg (fun b => Ending.returned (Value.bool b)) HW.out, hJw _ (by first | exact hJ | exact hJ.drew | exact hJ.drew.drew)⟩
    · have HW : Hid (decide (IntKind.i64.wrap ((te : Int) + (tk : Int)) < 62) = false) := by show _ = _; rw [IntKind.wrap_i64, decide_eq_false_iff_not]; · omega
      have HD : Hid ((pl == 0 && decide (te + tk < 62)) = false) := by show _ = _; simp [hpc, hlt]
      go_wp2
      go_region_with (first | (go_at_call 177; refine (hA _ (by first | exact hJ | exact hJ.drew | exact hJ.drew.drew)).mono ?_; rintro e wn ⟨rfl, hbn⟩; have hJ : Below (w.heap.size + 1) W1 wn := (by first | exact below_step hJ hWz hbn | exact below_step hJ.drew hWz hbn | exact below_step hJ.drew.drew hWz hbn); obtain ⟨e0, e1, e2, e3, e4⟩ := box5 ((hJ.block w.heap.size (Nat.lt_succ_self _)).trans x1)) | (go_at_call 182; refine (hB _ (by first | exact hJ | exact hJ.drew | exact hJ.drew.drew)).mono ?_; rintro e wn ⟨rfl, hbn⟩; have hJ : Below (w.heap.size + 1) W1 wn := (by first | exact below_step hJ hWz hbn | exact below_step hJ.drew hWz hbn | exact below_step hJ.drew.drew hWz hbn); obtain ⟨e0, e1, e2, e3, e4⟩ := box5 ((hJ.block w.heap.size (Nat.lt_succ_self _)).trans x1)))
      all_goals go_wp2
      all_goals go_ret
      all_goals exact ⟨by rw [HD.out]; exact congrArg (fun b => Ending.returned (Value.bool b)) HW.out, hJw _ (by first | exact hJ | exact hJ.drew | exact hJ.drew.drew)⟩
  · have hpb : ((pl : Int) == 0) = false := by simp [hp]
    have HD : Hid ((pl == 0 && decide (te + tk < 62)) = false) := by show _ = _; simp [hp]
    clear hp
    go_wp2
    go_region
    all_goals go_wp2
    all_goals go_ret
    all_goals exact ⟨by rw [HD.out]; rfl, hJw _ (by first | exact hJ | exact hJ.drew | exact hJ.drew.drew)⟩
end Go.Proofs.YtngpplmndpmgiaaGreat.Tree
namespace Go.Proofs.YtngpplmndpmgiaaGreat.Tree
open Go.RowKit Go.Proofs.YtngpplmndpmgiaaGreat.Pages
set_option linter.unusedSimpArgs false
set_option linter.unusedVariables false
theorem own_cut {w : World} {B : Nat} {e : TypeId} {z g n c : Nat} {xs : List Value} (h : w.ownsRow B e z (.slice (some ⟨g, 0, none⟩) n c) n xs) {m : Nat} (hm : m ≤ n) : w.ownsRow B e z (.slice (some ⟨g, 0, none⟩) m c) m (xs.take (m * z)) := by
  obtain ⟨h1, h2⟩ := h
  have hmz : m * z ≤ n * z := Nat.mul_le_mul_right z hm
  refine ⟨by rw [List.length_take, h1]; omega, ?_⟩
  rcases h2 with ⟨h3, _⟩ | ⟨g', c', cur, h3, hb, hg, hnc, hcm, hcs, htake⟩
  · simp at h3
  · simp only [Value.slice.injEq, Option.some.injEq, Addr.mk.injEq, and_true, true_and] at h3
    obtain ⟨rfl, rfl⟩ := h3
    refine .inr ⟨g, c, cur, rfl, hb, hg, by omega, hcm, hcs, ?_⟩
    rw [← htake, List.take_take, Nat.min_eq_left hmz]
inductive Nd where
  | mk (s : Sp) (place : Nat) (es : List En) (kids : List Nd)
def Nd.sp : Nd → Sp | .mk s _ _ _ => s
def Nd.place : Nd → Nat | .mk _ p _ _ => p
def Nd.es : Nd → List En | .mk _ _ es _ => es
def Nd.kids : Nd → List Nd | .mk _ _ _ ks => ks
inductive NdOn (w : World) (S : Bl) : Nd → MN → Prop
  | mk (s : Sp) (place : Nat) (es : List En) (kids : List Nd) (m : MN) (ms : List MN) (h1 : m.lo = s.lo) (h2 : m.hi = s.hi) (h3 : m.place = place) (h4 : m.en = es.length) (h5 : m.kn = kids.length) (h6 : es.length ≤ m.ec) (h7 : kids.length ≤ m.kc)
      (h8 : RowOn w S m.ea (ecells es)) (h9 : RowOn w S m.ka (ncells ms)) (h10 : ms.length = kids.length) (h11 : ∀ (i : Nat) (k : Nd) (x : MN), kids[i]? = some k → ms[i]? = some x → NdOn w S k x) : NdOn w S (.mk s place es kids) m
theorem NdOn.on {w w' : World} {S : Bl} {n : Nd} {m : MN} (h : NdOn w S n m) (ho : On S w w') : NdOn w' S n m := by
  induction h with
  | mk s place es kids m ms h1 h2 h3 h4 h5 h6 h7 h8 h9 h10 h11 ih => exact .mk s place es kids m ms h1 h2 h3 h4 h5 h6 h7 (h8.on ho) (h9.on ho) h10 ih
theorem NdOn.mono {w : World} {S S' : Bl} {n : Nd} {m : MN} (h : NdOn w S n m) (hs : ∀ k, S k → S' k) : NdOn w S' n m := by
  induction h with
  | mk s place es kids m ms h1 h2 h3 h4 h5 h6 h7 h8 h9 h10 h11 ih => exact .mk s place es kids m ms h1 h2 h3 h4 h5 h6 h7 (h8.mono hs) (h9.mono hs) h10 ih
def NdsOn (w : World) (S : Bl) (ns : List Nd) (ms : List MN) : Prop := ms.length = ns.length ∧ ∀ (i : Nat) (k : Nd) (x : MN), ns[i]? = some k → ms[i]? = some x → NdOn w S k x
theorem NdsOn.on {w w' : World} {S : Bl} {ns : List Nd} {ms : List MN} (h : NdsOn w S ns ms) (ho : On S w w') : NdsOn w' S ns ms := ⟨h.1, fun i k x a b => (h.2 i k x a b).on ho⟩
theorem NdsOn.mono {w : World} {S S' : Bl} {ns : List Nd} {ms : List MN} (h : NdsOn w S ns ms) (hs : ∀ k, S k → S' k) : NdsOn w S' ns ms := ⟨h.1, fun i k x a b => (h.2 i k x a b).mono hs⟩
theorem NdsOn.nil (w : World) (S : Bl) : NdsOn w S [] [] := ⟨rfl, fun i k x a _ => by simp at a⟩
theorem NdsOn.append {w : World} {S : Bl} {ns ns' : List Nd} {ms ms' : List MN} (h : NdsOn w S ns ms) (h' : NdsOn w S ns' ms') : NdsOn w S (ns ++ ns') (ms ++ ms') := by
  refine ⟨by rw [List.length_append, List.length_append, h.1, h'.1], fun i k x a b => ?_⟩
  by_cases hi : i < ns.length
  · rw [List.getElem?_append_left hi] at a
    rw [List.getElem?_append_left (by rw [h.1]; exact hi)] at b
    exact h.2 i k x a b
  · rw [List.getElem?_append_right (by omega)] at a
    rw [List.getElem?_append_right (by rw [h.1]; omega), h.1] at b
    exact h'.2 _ k x a b
theorem NdsOn.take {w : World} {S : Bl} {ns : List Nd} {ms : List MN} (h : NdsOn w S ns ms) (n : Nat) : NdsOn w S (ns.take n) (ms.take n) := by
  refine ⟨by rw [List.length_take, List.length_take, h.1], fun i k x a b => ?_⟩
  rw [List.getElem?_take] at a b
  split at a
  · rename_i hi
    rw [if_pos hi] at b
    exact h.2 i k x a b
  · simp at a
theorem NdsOn.drop {w : World} {S : Bl} {ns : List Nd} {ms : List MN} (h : NdsOn w S ns ms) (n : Nat) : NdsOn w S (ns.drop n) (ms.drop n) := by
  refine ⟨by rw [List.length_drop, List.length_drop, h.1], fun i k x a b => ?_⟩
  rw [List.getElem?_drop] at a b
  exact h.2 _ k x a b
theorem NdsOn.one {w : World} {S : Bl} {n : Nd} {m : MN} (h : NdOn w S n m) : NdsOn w S [n] [m] := ⟨rfl, fun i k x a b => by
  cases i with
  | zero => simp at a b; subst a b; exact h
  | succ i => simp at a⟩
def leafNd (es : List En) : Nd := .mk ⟨firstKey es, ⟨#[]⟩⟩ 0 es []
theorem leaf_on {w : World} {S : Bl} {q : Pc En} (h1 : q.l.length ≤ q.c) (h2 : RowOn w S q.a (ecells q.l)) : NdOn w S (leafNd q.l) (leafMN q) :=
  .mk _ 0 q.l [] (leafMN q) [] rfl rfl rfl rfl rfl h1 (Nat.zero_le _) h2 (.inl rfl) rfl (fun i k x a _ => by simp at a)
theorem leaves_on {w : World} {S : Bl} {qs : List (Pc En)} (h : ∀ q ∈ qs, q.l.length ≤ q.c ∧ RowOn w S q.a (ecells q.l)) : NdsOn w S ((qs.map (·.l)).map leafNd) (qs.map leafMN) := by
  refine ⟨by simp, fun i k x a b => ?_⟩
  rw [List.map_map, List.getElem?_map] at a
  rw [List.getElem?_map] at b
  cases hq : qs[i]? with
  | none => rw [hq] at a; simp at a
  | some q =>
    rw [hq] at a b
    simp at a b
    subst a b
    have := h q (List.mem_of_getElem? hq)
    exact leaf_on this.1 this.2
def firstLoN (ns : List Nd) : ByteArray := match ns with | [] => ⟨#[]⟩ | n :: _ => n.sp.lo
def branNd (ks : List Nd) : Nd := .mk ⟨firstLoN ks, ⟨#[]⟩⟩ 0 [] ks
theorem NdOn.lo {w : World} {S : Bl} {n : Nd} {m : MN} (h : NdOn w S n m) : m.lo = n.sp.lo := by cases h; assumption
theorem NdOn.pl {w : World} {S : Bl} {n : Nd} {m : MN} (h : NdOn w S n m) : m.place = n.place := by cases h; assumption
theorem NdsOn.first {w : World} {S : Bl} {ns : List Nd} {ms : List MN} (h : NdsOn w S ns ms) : firstLo ms = firstLoN ns := by
  cases ns with
  | nil => have := List.eq_nil_of_length_eq_zero (h.1.trans rfl); subst this; rfl
  | cons n ns =>
    cases ms with
    | nil => have := h.1; simp at this
    | cons m ms => exact (h.2 0 n m rfl rfl).lo
theorem bran_on {w : World} {S : Bl} {q : Pc MN} {ks : List Nd} (h1 : q.l.length ≤ q.c) (h2 : RowOn w S q.a (ncells q.l)) (h3 : NdsOn w S ks q.l) : NdOn w S (branNd ks) (branMN q) :=
  .mk _ 0 [] ks (branMN q) q.l h3.first rfl rfl rfl h3.1 (Nat.zero_le _) (by rw [← h3.1]; exact h1) (.inl rfl) h2 h3.1 h3.2
def kszN (n : Nd) : Nat := n.sp.lo.size + 3
theorem nds_sizes {w : World} {S : Bl} {ns : List Nd} {ms : List MN} (h : NdsOn w S ns ms) : ns.map kszN = ms.map ksz := by
  apply List.ext_getElem?
  intro i
  rw [List.getElem?_map, List.getElem?_map]
  cases hn : ns[i]? with
  | none =>
    have : ms[i]? = none := by
      rw [List.getElem?_eq_none_iff] at hn ⊢
      rw [h.1]; exact hn
    rw [this]; rfl
  | some n =>
    have hi := (List.getElem?_eq_some_iff.1 hn).1
    have hm : ms[i]? = some (ms[i]'(by rw [h.1]; exact hi)) := List.getElem?_eq_getElem _
    rw [hm]
    have := (h.2 i n _ hn hm).lo
    simp [kszN, ksz, this]
theorem tot_map {α : Type} (sz : α → Nat) (l : List α) : tot sz l = (l.map sz).sum := rfl
theorem shN_map {α β : Type} (f : α → Nat) (g : β → Nat) (aim : Nat) : ∀ (l : List α) (m : List β) (c : Nat), l.map f = m.map g → shN f aim l c = shN g aim m c
  | [], [], _, _ => rfl
  | [], _ :: _, _, h => by simp at h
  | _ :: _, [], _, h => by simp at h
  | x :: l, y :: m, c, h => by
    simp only [List.map_cons, List.cons.injEq] at h
    simp only [shN, h.1, shN_map f g aim l m _ h.2]
theorem nds_cut {w : World} {S : Bl} : ∀ (k : Nat) (ns : List Nd) (ms : List MN), NdsOn w S ns ms → (cutP kszN k ns).length = (cutP ksz k ms).length ∧ ∀ (i : Nat) (p : List Nd) (q : List MN), (cutP kszN k ns)[i]? = some p → (cutP ksz k ms)[i]? = some q → NdsOn w S p q
  | 0, ns, ms, h => ⟨rfl, fun i p q a _ => by simp [cutP] at a⟩
  | k + 1, ns, ms, h => by
    have hs := nds_sizes h
    have ht : tot kszN ns = tot ksz ms := by rw [tot_map, tot_map, hs]
    have hsh : shN kszN (tot ksz ms / 2) ns 0 = shN ksz (tot ksz ms / 2) ms 0 := shN_map _ _ _ _ _ _ hs
    simp only [cutP, ht, hsh, ← h.1]
    split
    · split
      · exact ⟨rfl, fun i p q a _ => by simp at a⟩
      · refine ⟨rfl, fun i p q a b => ?_⟩
        cases i with
        | zero => simp at a b; subst a b; exact h
        | succ i => simp at a
    · obtain ⟨r1, r2⟩ := nds_cut k _ _ (h.drop (shN ksz (tot ksz ms / 2) ms 0))
      refine ⟨by rw [List.length_cons, List.length_cons, r1], fun i p q a b => ?_⟩
      cases i with
      | zero => simp at a b; subst a b; exact h.take _
      | succ i => simp only [List.getElem?_cons_succ] at a b; exact r2 i p q a b
theorem nds_cuts {w : World} {S : Bl} {ns : List Nd} {ms : List MN} (h : NdsOn w S ns ms) : (cuts kszN ns).length = (cuts ksz ms).length ∧ ∀ (i : Nat) (p : List Nd) (q : List MN), (cuts kszN ns)[i]? = some p → (cuts ksz ms)[i]? = some q → NdsOn w S p q := by
  unfold cuts; rw [h.1]; exact nds_cut _ ns ms h
theorem brans_on {w w' : World} {S : Bl} {ns : List Nd} {ms : List MN} {qs : List (Pc MN)} (h : NdsOn w' S ns ms) (hq : qs.map (·.l) = cuts ksz ms) (hr : ∀ q ∈ qs, q.l.length ≤ q.c ∧ RowOn w' S q.a (ncells q.l)) : NdsOn w' S ((cuts kszN ns).map branNd) (qs.map branMN) := by
  obtain ⟨h1, h2⟩ := nds_cuts h
  have hl : qs.length = (cuts ksz ms).length := by rw [← hq]; simp
  refine ⟨by rw [List.length_map, List.length_map, h1, hl], fun i k x a b => ?_⟩
  rw [List.getElem?_map] at a b
  cases hp : (cuts kszN ns)[i]? with
  | none => rw [hp] at a; simp at a
  | some p =>
    cases hx : qs[i]? with
    | none => rw [hx] at b; simp at b
    | some q =>
      rw [hp] at a
      rw [hx] at b
      simp at a b
      subst a b
      have hql : (cuts ksz ms)[i]? = some q.l := by rw [← hq, List.getElem?_map, hx]; rfl
      have := hr q (List.mem_of_getElem? hx)
      exact bran_on this.1 this.2 (h2 i p q.l hp hql)
theorem own_set {w : World} {B : Nat} {e : TypeId} {z g n c : Nat} {xs : List Value} (h : w.ownsRow B e z (.slice (some ⟨g, 0, none⟩) n c) n xs) (k : Nat) (hk : k < xs.length) (u : Value) : (w.setCell ⟨g, k, none⟩ u).ownsRow B e z (.slice (some ⟨g, 0, none⟩) n c) n (xs.set k u) := by
  obtain ⟨h1, h2⟩ := h
  refine ⟨by rw [List.length_set]; exact h1, ?_⟩
  rcases h2 with ⟨h3, _⟩ | ⟨g', c', cur, h3, hb, hg, hnc, hcm, hcs, htake⟩
  · simp at h3
  · simp only [Value.slice.injEq, Option.some.injEq, Addr.mk.injEq, and_true, true_and] at h3
    obtain ⟨rfl, rfl⟩ := h3
    refine .inr ⟨g, c, _, rfl, hb, set_of hg k u, hnc, hcm, by simpa using hcs, ?_⟩
    rw [Array.toList_setIfInBounds, List.take_set, htake]
theorem own_set5 {w : World} {B : Nat} {e : TypeId} {z g n c : Nat} {xs : List Value} {a0 a1 a2 a3 a4 : Value} (h : w.ownsRow B e z (.slice (some ⟨g, 0, none⟩) n c) n (xs ++ [a0, a1, a2, a3, a4])) (k : Nat) (hk : xs.length = k) (m : MN) :
    (((((w.setCell ⟨g, k, none⟩ (.string m.lo)).setCell ⟨g, k + 1, none⟩ (.string m.hi)).setCell ⟨g, k + 2, none⟩ (.int .i64 m.place)).setCell ⟨g, k + 3, none⟩ (.slice m.ea m.en m.ec)).setCell ⟨g, k + 4, none⟩ (.slice m.ka m.kn m.kc)).ownsRow B e z (.slice (some ⟨g, 0, none⟩) n c) n (xs ++ m.cells) := by
  subst hk
  have e0 := own_set h xs.length (by simp) (.string m.lo)
  have e1 := own_set e0 (xs.length + 1) (by simp) (.string m.hi)
  have e2 := own_set e1 (xs.length + 2) (by simp) (.int .i64 m.place)
  have e3 := own_set e2 (xs.length + 3) (by simp) (.slice m.ea m.en m.ec)
  have e4 := own_set e3 (xs.length + 4) (by simp) (.slice m.ka m.kn m.kc)
  simpa [List.set_append, MN.cells] using e4
end Go.Proofs.YtngpplmndpmgiaaGreat.Tree
namespace Go.Proofs.YtngpplmndpmgiaaGreat.Tree
open Go.RowKit
set_option linter.unusedSimpArgs false
set_option linter.unusedVariables false
theorem endsC {P : Program} {n : Nat} {fn : Func} {tmps : Array Value} {R : Ending → World → Prop} {B : Nat} {ds : List Deferred} {w : World} {p : Nat} {ty : TypeId} (hr : fn.results = #[.cell p ty]) (g : Nat) (t : TypeId) (cs : Array Value) (d : TypeDesc) (hp : tmps.getD p undef = .pointer (some ⟨g, 0, none⟩)) (hg : w.heap[g]? = some (.cells cs t))
    (hu : P.underlying ty = some d) (hd : (match d with | .struct _ | .array _ _ => true | _ => false) = true) (hi : (P.info? ty).map (·.size) = some cs.size) (hm : Marks B ds w) (h : ∀ w', Took B w w' → R (.returned (.agg cs)) w') :
    LeavesInM Fence.wide n P fn tmps R ds .returning w :=
  leave_marks (by simp) hm (fun w' ht => ⟨_, results_cell_row hr tmps w' g t cs _ d hp (ht.cells _ _ _ _ hg) hu hd hi, h w' ht⟩)
end Go.Proofs.YtngpplmndpmgiaaGreat.Tree
namespace Go.Proofs.YtngpplmndpmgiaaGreat.Tree
open Go.RowKit Go.Proofs.YtngpplmndpmgiaaGreat.Pages
set_option linter.unusedSimpArgs false
set_option linter.unusedVariables false
structure Ch where
  key : ByteArray
  val : ByteArray
  gone : Bool
def Ch.cells (c : Ch) : List Value := [.string c.key, .string c.val, .bool c.gone]
def Rise (cs : List Ch) : Prop := cs.Pairwise (fun a b => lt a.key b.key = true)
def srch : List Ch → ByteArray → Nat
  | [], _ => 0
  | c :: cs, k => if lt c.key k = true then srch cs k + 1 else 0
def fnd (cs : List Ch) (k : ByteArray) : Bool := match cs[srch cs k]? with | some c => !lt k c.key | none => false
theorem srch_le : ∀ (cs : List Ch) (k : ByteArray), srch cs k ≤ cs.length
  | [], _ => Nat.le_refl _
  | c :: cs, k => by
    have := srch_le cs k
    simp only [srch, List.length_cons]
    split <;> omega
theorem srch_lt : ∀ {cs : List Ch} {k : ByteArray} {i : Nat}, i < srch cs k → ∃ h : i < cs.length, lt cs[i].key k = true
  | [], _, i, hi => by simp [srch] at hi
  | c :: cs, k, i, hi => by
    simp only [srch] at hi
    split at hi
    · rename_i hc
      cases i with
      | zero => exact ⟨by simp, hc⟩
      | succ i =>
        obtain ⟨h, h'⟩ := srch_lt (cs := cs) (k := k) (i := i) (by omega)
        exact ⟨by simpa using h, h'⟩
    · omega
theorem srch_ge : ∀ {cs : List Ch} {k : ByteArray}, Rise cs → ∀ {i : Nat}, srch cs k ≤ i → ∀ (hl : i < cs.length), lt cs[i].key k = false
  | [], _, _, i, _, hl => by simp at hl
  | c :: cs, k, hr, i, hi, hl => by
    obtain ⟨h1, h2⟩ := List.pairwise_cons.1 hr
    simp only [srch] at hi
    split at hi
    · cases i with
      | zero => omega
      | succ i => exact srch_ge h2 (by omega) (by simpa using hl)
    · rename_i hc
      have hc' : lt c.key k = false := by simpa using hc
      cases i with
      | zero => exact hc'
      | succ i =>
        have hm := h1 (cs[i]'(by simpa using hl)) (List.getElem_mem _)
        cases hx : lt (cs[i]'(by simpa using hl)).key k
        · exact hx
        · have := lt_trans hm hx; rw [hc'] at this; cases this
theorem srch_eq {cs : List Ch} {k : ByteArray} (hr : Rise cs) {i : Nat} (hi : i ≤ cs.length) (h1 : ∀ j (h : j < cs.length), j < i → lt cs[j].key k = true) (h2 : ∀ j (h : j < cs.length), i ≤ j → lt cs[j].key k = false) : srch cs k = i := by
  have hl := srch_le cs k
  by_cases h : srch cs k < i
  · have a := h1 (srch cs k) (by omega) h
    have b := srch_ge hr (Nat.le_refl _) (by omega : srch cs k < cs.length)
    rw [a] at b; cases b
  · by_cases h' : i < srch cs k
    · obtain ⟨hh, a⟩ := srch_lt h'
      have b := h2 i hh (Nat.le_refl _)
      rw [a] at b; cases b
    · omega
theorem ch_cells_at {l : List Ch} {j : Nat} (hj : j < l.length) : (l.flatMap Ch.cells)[j * 3]? = some (.string (l[j]).key) ∧ (l.flatMap Ch.cells)[j * 3 + 1]? = some (.string (l[j]).val) ∧ (l.flatMap Ch.cells)[j * 3 + 2]? = some (.bool (l[j]).gone) := by
  induction l generalizing j with
  | nil => simp at hj
  | cons x l ih =>
    cases j with
    | zero => simp [Ch.cells]
    | succ j =>
      have := ih (j := j) (by simpa using hj)
      have e0 : (j + 1) * 3 = j * 3 + 3 := by omega
      have e1 : (j + 1) * 3 + 1 = j * 3 + 1 + 3 := by omega
      have e2 : (j + 1) * 3 + 2 = j * 3 + 2 + 3 := by omega
      rw [e1, e2, e0]
      simpa [Ch.cells] using this
theorem RowOn.ch {w : World} {S : Bl} {a : Option Addr} {l : List Ch} {j : Nat} (h : RowOn w S a (l.flatMap Ch.cells)) (hj : j < l.length) : ∃ b off, a = some ⟨b, off, none⟩ ∧ S b ∧ w.cell? ⟨b, off + j * 3, none⟩ = some (.string (l[j]).key) ∧ w.cell? ⟨b, off + j * 3 + 1, none⟩ = some (.string (l[j]).val) ∧ w.cell? ⟨b, off + j * 3 + 2, none⟩ = some (.bool (l[j]).gone) := by
  obtain ⟨c0, c1, c2⟩ := ch_cells_at hj
  rcases h with h | ⟨b, off, ha, hb, hc⟩
  · rw [h] at c0; simp at c0
  · exact ⟨b, off, ha, hb, hc _ _ c0, hc _ _ c1, hc _ _ c2⟩
theorem isNaN_any (s : ByteArray) (w : World) : Calls Tryz.prog 123 #[.string s] w fun e w' => e = .returned (.bool false) ∧ w' = w := by
  have h : (s.toList == s.toList) = true := by simp
  go_enter Tryz.func123, Tryz.ntmps123
  go_wp2
  go_ret
  exact ⟨by simp, rfl⟩
def cmpI (a b : ByteArray) : Int := if lt a b then -1 else if lt b a then 1 else 0
theorem ret_int {k : IntKind} {a b : Int} (h : a = b) : Ending.returned (.int k a) = .returned (.int k b) := by rw [h]
theorem compare_any (a b : ByteArray) (w : World) : Calls Tryz.prog 97 #[.string a, .string b] w fun e w' => e = .returned (.int .i64 (cmpI a b)) ∧ w' = w := by
  cases h1 : Op.bytesLess a.toList b.toList
  · by_cases h2 : a = b
    · have h3 : (a.toList == b.toList) = true := list_same h2
      have HC : Hid (cmpI a b = 0) := by show _ = _; subst h2; simp [cmpI, lt_irrefl]
      clear h2
      go_enter Tryz.func97, Tryz.ntmps97
      go_wp2_with (go_at_call 123; refine (isNaN_any _ _).mono ?_; rintro e w' ⟨rfl, hw⟩; subst w')
      go_ret
      exact ⟨ret_int HC.out.symm, rfl⟩
    · have h3 : (a.toList == b.toList) = false := list_ne h2
      have h4 : lt b a = true := by
        cases h : lt b a
        · exact absurd (lt_total h1 h) h2
        · rfl
      have HC : Hid (cmpI a b = 1) := by show _ = _; unfold cmpI; rw [show lt a b = false from h1, h4]; rfl
      go_enter Tryz.func97, Tryz.ntmps97
      go_wp2_with (go_at_call 123; refine (isNaN_any _ _).mono ?_; rintro e w' ⟨rfl, hw⟩; subst w')
      go_ret
      exact ⟨ret_int HC.out.symm, rfl⟩
  · have HC : Hid (cmpI a b = -1) := by show _ = _; simp [cmpI, lt, h1]
    go_enter Tryz.func97, Tryz.ntmps97
    go_wp2_with (go_at_call 123; refine (isNaN_any _ _).mono ?_; rintro e w' ⟨rfl, hw⟩; subst w')
    go_ret
    exact ⟨ret_int HC.out.symm, rfl⟩
theorem search1_any (c : Ch) (k : ByteArray) (w : World) : Calls Tryz.prog 96 #[.agg #[.string c.key, .string c.val, .bool c.gone], .string k] w fun e w' => e = .returned (.int .i64 (cmpI c.key k)) ∧ Below w.heap.size w w' := by
  have hb : Below w.heap.size w (w.alloc (.cells #[.string c.key, .string c.val, .bool c.gone] 100)) := (Below.refl _ _).alloc (Nat.le_refl _) _
  go_enter Tryz.func96, Tryz.ntmps96
  go_wp2_with (go_at_call 97; refine (compare_any _ _ _).mono ?_; rintro e w' ⟨rfl, hw⟩; subst w')
  go_ret
  exact ⟨rfl, hb⟩
end Go.Proofs.YtngpplmndpmgiaaGreat.Tree
namespace Go.Proofs.YtngpplmndpmgiaaGreat.Tree
open Go.RowKit Go.Proofs.YtngpplmndpmgiaaGreat.Pages
set_option linter.unusedSimpArgs false
set_option linter.unusedVariables false
theorem cmpI_neg {a b : ByteArray} : (cmpI a b < 0) ↔ lt a b = true := by
  unfold cmpI
  split
  · simp_all
  · split <;> simp_all
theorem cmpI_zero {a b : ByteArray} (h : lt a b = false) : (cmpI a b == 0) = !lt b a := by
  unfold cmpI
  rw [h]
  cases lt b a <;> rfl
theorem ret_ib {a a' : Nat} {b b' : Bool} (h1 : a = a') (h2 : b = b') : Ending.returned (.tuple #[.int .i64 a, .bool b]) = .returned (.tuple #[.int .i64 a', .bool b']) := by rw [h1, h2]
set_option maxRecDepth 100000 in
set_option maxHeartbeats 2000000 in
theorem bsearch_any (ca : Option Addr) (cc : Nat) (cs : List Ch) (k : ByteArray) (S : Bl) (w : World) (hR : RowOn w S ca (cs.flatMap Ch.cells)) (hS : ∀ b, S b → b < w.heap.size) (hr : Rise cs) (hn : cs.length ≤ 1000000) (hc : cs.length ≤ cc) :
    Calls Tryz.prog 95 #[.slice ca cs.length cc, .string k, .func (.func 96) #[] #[]] w fun e w' => e = .returned (.tuple #[.int .i64 (srch cs k), .bool (fnd cs k)]) ∧ Below w.heap.size w w' := by
  go_enter Tryz.func95, Tryz.ntmps95
  go_wp2
  go_loopw [9, 10] (fun a b wr => ∃ i j : Nat, a = .int .i64 i ∧ b = .int .i64 j ∧ i ≤ j ∧ j ≤ cs.length ∧ Below w.heap.size w wr ∧ Hid ((∀ m (h : m < cs.length), m < i → lt cs[m].key k = true) ∧ (∀ m (h : m < cs.length), j ≤ m → lt cs[m].key k = false))) (fun a b _ => (intOf b - intOf a).toNat)
  case atStart => exact ⟨0, cs.length, rfl, rfl, Nat.zero_le _, Nat.le_refl _, Below.refl _ _, fun m h h' => by omega, fun m h h' => by omega⟩
  case round =>
    obtain ⟨i, j, rfl, rfl, hij, hjn, hb, HI⟩ := hrel
    by_cases hlt : i < j
    · have hmi : i ≤ (i + j) / 2 := by omega
      have hmj : (i + j) / 2 < j := by omega
      have hmn : (i + j) / 2 < cs.length := by omega
      obtain ⟨rb, ro, hca, hrb, k0, k1, k2⟩ := (hR.on (On.of_below hb hS)).ch hmn
      subst hca
      obtain ⟨c, hcc⟩ : ∃ c, cs[(i + j) / 2] = c := ⟨_, rfl⟩
      rw [hcc] at k0 k1 k2
      have hlti : (i : Int) < (j : Int) := by omega
      have hC := search1_any c k wr
      have hdiv : ((i : Int) + (j : Int)) / 2 = (((i + j) / 2 : Nat) : Int) := by omega
      have HD : Hid (((i : Int) + (j : Int)) / 2 = (((i + j) / 2 : Nat) : Int)) := hdiv
      have HC : Hid (cs[(i + j) / 2] = c) := hcc
      clear hdiv hcc hR
      cases hl : lt c.key k
      · have hneg : ¬ cmpI c.key k < 0 := by rw [cmpI_neg, hl]; simp
        go_wp2_with (go_at_call 96; refine hC.mono ?_; rintro e w2 ⟨rfl, hb2⟩)
        go_roundw
        case rel =>
          refine ⟨i, (i + j) / 2, rfl, by rw [HD.out], hmi, by omega, hb.trans (hb2.mono hb.size), HI.out.1, fun m h hm => ?_⟩
          by_cases he : m = (i + j) / 2
          · subst he; rw [HC.out]; exact hl
          · have hp := List.pairwise_iff_getElem.1 hr ((i + j) / 2) m hmn h (by omega)
            rw [HC.out] at hp
            cases hx : lt cs[m].key k
            · rfl
            · have := lt_trans hp hx; rw [hl] at this; cases this
        case measure => simp [intOf]; omega
      · have hneg : cmpI c.key k < 0 := cmpI_neg.2 hl
        go_wp2_with (go_at_call 96; refine hC.mono ?_; rintro e w2 ⟨rfl, hb2⟩)
        go_roundw
        case rel =>
          refine ⟨(i + j) / 2 + 1, j, by rw [HD.out]; rfl, rfl, by omega, hjn, hb.trans (hb2.mono hb.size), fun m h hm => ?_, HI.out.2⟩
          by_cases he : m = (i + j) / 2
          · subst he; rw [HC.out]; exact hl
          · have hp := List.pairwise_iff_getElem.1 hr m ((i + j) / 2) h hmn (by omega)
            rw [HC.out] at hp
            exact lt_trans hp hl
        case measure => simp [intOf]; omega
    · obtain rfl : i = j := by omega
      have HS : Hid (srch cs k = i) := srch_eq hr hjn HI.out.1 HI.out.2
      by_cases hin : i < cs.length
      · obtain ⟨rb, ro, hca, hrb, k0, k1, k2⟩ := (hR.on (On.of_below hb hS)).ch hin
        subst hca
        have hl : lt cs[i].key k = false := HI.out.2 i hin (Nat.le_refl _)
        have HF : Hid (fnd cs k = !lt k cs[i].key) := by show _ = _; unfold fnd; rw [HS.out]; simp [hin]
        have hini : (i : Int) < (cs.length : Int) := by omega
        have hC := search1_any cs[i] k wr
        have hz := cmpI_zero hl
        clear hR
        go_wp2_with (go_at_call 96; refine hC.mono ?_; rintro e w2 ⟨rfl, hb2⟩)
        go_ret2
        exact ⟨ret_ib HS.out.symm HF.out.symm, hb.trans (hb2.mono hb.size)⟩
      · have HF : Hid (fnd cs k = false) := by show _ = _; unfold fnd; rw [HS.out, List.getElem?_eq_none (by omega)]
        have hini : ¬ (i : Int) < (cs.length : Int) := by omega
        clear hR
        go_wp2
        go_ret2
        exact ⟨ret_ib HS.out.symm HF.out.symm, hb⟩
theorem search_any (ca : Option Addr) (cc : Nat) (cs : List Ch) (k : ByteArray) (S : Bl) (w : World) (hR : RowOn w S ca (cs.flatMap Ch.cells)) (hS : ∀ b, S b → b < w.heap.size) (hr : Rise cs) (hn : cs.length ≤ 1000000) (hc : cs.length ≤ cc) :
    Calls Tryz.prog 66 #[.slice ca cs.length cc, .string k] w fun e w' => e = .returned (.tuple #[.int .i64 (srch cs k), .bool (fnd cs k)]) ∧ Below w.heap.size w w' := by
  have hB := bsearch_any ca cc cs k S w hR hS hr hn hc
  go_enter Tryz.func66, Tryz.ntmps66
  go_wp2_with (go_at_call 95; refine hB.mono ?_; rintro e w2 ⟨rfl, hb2⟩)
  go_ret2
  exact ⟨rfl, hb2⟩
end Go.Proofs.YtngpplmndpmgiaaGreat.Tree
namespace Go.Proofs.YtngpplmndpmgiaaGreat.Tree
open Go.RowKit Go.Shelf Go.Proofs.YtngpplmndpmgiaaGreat.Pages
set_option linter.unusedSimpArgs false
set_option linter.unusedVariables false
attribute [local go_sem] Oper.semAt_some
def chE (c : Ch) : En := ⟨⟨c.key, c.val, c.val.size, 0⟩, []⟩
def tellE (cs : List Ch) : List En := (cs.filter (fun c => !c.gone)).map chE
theorem tellE_take (cs : List Ch) (j : Nat) (h : j < cs.length) : tellE (cs.take (j + 1)) = tellE (cs.take j) ++ (if cs[j].gone = true then [] else [chE cs[j]]) := by
  unfold tellE
  rw [filter_take _ cs j h, List.map_append]
  cases cs[j].gone <;> rfl
theorem tellE_split (cs : List Ch) (j : Nat) (h : j < cs.length) (hg : cs[j].gone = false) : tellE cs = tellE (cs.take j) ++ chE cs[j] :: tellE (cs.drop (j + 1)) := by
  unfold tellE
  conv => lhs; rw [← List.take_append_drop j cs, List.filter_append, List.drop_eq_getElem_cons h, List.filter_cons]
  simp [hg]
theorem setCell_same {w : World} {b i : Nat} {cs : Array Value} {e : TypeId} {v : Value} (h : w.heap[b]? = some (.cells cs e)) (hv : cs[i]? = some v) : w.setCell ⟨b, i, none⟩ v = w := by
  have hh : (w.setCell ⟨b, i, none⟩ v).heap = w.heap := by
    apply Array.ext
    · simp [World.setCell]
    · intro k h1 h2
      by_cases hk : k = b
      · subst hk
        have a1 := set_of h i v
        have a2 : cs.setIfInBounds i v = cs := by
          obtain ⟨hi, hvi⟩ := Array.getElem?_eq_some_iff.1 hv
          apply Array.ext
          · simp
          · intro m m1 m2
            rw [Array.getElem_setIfInBounds (by simpa using m1)]
            split
            · subst_vars; rfl
            · rfl
        rw [a2, ← h] at a1
        rw [Array.getElem?_eq_getElem h1, Array.getElem?_eq_getElem h2] at a1
        exact Option.some.inj a1
      · have := Below.heap_setCell w ⟨b, i, none⟩ v k hk
        rw [Array.getElem?_eq_getElem h1, Array.getElem?_eq_getElem h2] at this
        exact Option.some.inj this
  cases w
  simp only [World.setCell] at hh ⊢
  rw [hh]
set_option maxHeartbeats 1000000 in
theorem entry_any (c : Ch) (w : World) :
    Calls Tryz.prog 67 #[.agg #[.string c.key, .string c.val, .bool c.gone]] w fun e w' => e = .returned (.agg #[.string c.key, .string c.val, .int .i64 c.val.size, .int .i64 0]) ∧ Below w.heap.size w w' := by
  obtain ⟨W1, hW1⟩ : ∃ W1, w.alloc (.cells #[.string c.key, .string c.val, .bool c.gone] 100) = W1 := ⟨_, rfl⟩
  obtain ⟨W2, hW2⟩ : ∃ W2, W1.alloc (.cells #[.string ⟨#[]⟩, .string ⟨#[]⟩, .int .i64 0, .int .i64 0] 102) = W2 := ⟨_, rfl⟩
  have z1 : W1.heap.size = w.heap.size + 1 := by rw [← hW1]; simp
  have x1 : W1.heap[w.heap.size]? = some (.cells #[.string c.key, .string c.val, .bool c.gone] 100) := hW1 ▸ heap_new w _
  have x2 : W2.heap[w.heap.size]? = some (.cells #[.string c.key, .string c.val, .bool c.gone] 100) := hW2 ▸ heap_keep _ x1
  have e2 : W2.heap[w.heap.size + 1]? = some (.cells #[.string ⟨#[]⟩, .string ⟨#[]⟩, .int .i64 0, .int .i64 0] 102) := by rw [← z1]; exact hW2 ▸ heap_new W1 _
  obtain ⟨a0, a1, a2⟩ := box3 x2
  obtain ⟨b0, b1, b2, b3⟩ := box4 e2
  have bfr := free_of e2
  have e3 := set_of (set_of (set_of (set_of e2 0 (.string c.key)) 1 (.string c.val)) 2 (.int .i64 c.val.size)) 3 (.int .i64 0)
  obtain ⟨d0, d1, d2, d3⟩ := box4 (w := (((W2.setCell ⟨w.heap.size + 1, 0, none⟩ (.string c.key)).setCell ⟨w.heap.size + 1, 1, none⟩ (.string c.val)).setCell ⟨w.heap.size + 1, 2, none⟩ (.int .i64 c.val.size)).setCell ⟨w.heap.size + 1, 3, none⟩ (.int .i64 0)) (by simpa using e3)
  have HB : Hid (Below w.heap.size w ((((W2.setCell ⟨w.heap.size + 1, 0, none⟩ (.string c.key)).setCell ⟨w.heap.size + 1, 1, none⟩ (.string c.val)).setCell ⟨w.heap.size + 1, 2, none⟩ (.int .i64 c.val.size)).setCell ⟨w.heap.size + 1, 3, none⟩ (.int .i64 0))) := by
    have h0 : Below w.heap.size w W2 := by rw [← hW2, ← hW1]; exact ((Below.refl _ _).alloc (Nat.le_refl _) _).alloc (by simp) _
    exact (((h0.setCell (p := ⟨w.heap.size + 1, 0, none⟩) (by simp) _).setCell (p := ⟨w.heap.size + 1, 1, none⟩) (by simp) _).setCell (p := ⟨w.heap.size + 1, 2, none⟩) (by simp) _).setCell (p := ⟨w.heap.size + 1, 3, none⟩) (by simp) _
  clear x1 x2 e2 e3
  go_enter Tryz.func67, Tryz.ntmps67
  go_wp2
  refine bodyPost_ret (v := .agg #[.string c.key, .string c.val, .int .i64 c.val.size, .int .i64 0]) ?_ rfl ⟨rfl, HB.out⟩
  simp [results, Tryz.results67, go_sem, d0, d1, d2, d3]
def TellR (J Jx : List En → Bl → World → Prop) (xs pre ts : List En) (Y : Bl) (W : World) (e : Ending) (W' : World) : Prop :=
  (e = .returned (.bool true) ∧ ∃ Y', J (pre ++ ts) Y' W' ∧ Fr Y W W' ∧ Grows W Y Y') ∨
  (e = .returned (.bool false) ∧ ∃ Y' pp, pp <+: xs ∧ pp ≠ [] ∧ Jx pp Y' W' ∧ Fr Y W W' ∧ Grows W Y Y')
set_option maxRecDepth 100000 in
set_option maxHeartbeats 2000000 in
theorem tell_any (l : Nat) (xs : List En) (J Jx : List En → Bl → World → Prop) (sJ : Steady J) (lJ : Lies J) (Y₀ : Bl) (W₀ : World)
    (hY : ∀ pre x rest args S Y' W', xs = pre ++ x :: rest → J pre Y' W' → HasEn x args S W' → (∀ k, S k → ¬ Y' k ∧ k < W'.heap.size) → Fr Y₀ W₀ W' → Grows W₀ Y₀ Y' → YieldAt Fence.wide 0 Tryz.prog l args W' (RoundR J Jx (pre ++ [x]) Y' W'))
    (ca : Option Addr) (cc : Nat) (cs : List Ch) (S : Bl) (pre post : List En) (Y : Bl) (W : World) (hx : xs = pre ++ (tellE cs ++ post)) (hR : RowOn W S ca (cs.flatMap Ch.cells)) (hS : ∀ b, S b → ¬ Y b ∧ b < W.heap.size) (hn : cs.length ≤ 1000000) (hc : cs.length ≤ cc)
    (h0 : J pre Y W) (hF : Fr Y₀ W₀ W) (hG : Grows W₀ Y₀ Y) :
    CallsIn Fence.wide 0 Tryz.prog 154 #[.slice ca cs.length cc, .func (.yield l) #[] #[]] W (TellR J Jx xs pre (tellE cs) Y W) := by
  refine callsIn_of_wp Tryz.func154 rfl trivial ?_ rfl
  simp only [Tryz.ntmps154, List.size_toArray, List.length_cons, List.length_nil, Nat.reduceAdd, Nat.reduceSub, Array.replicate_succ, Array.replicate_zero, List.push_toArray, List.append_toArray, List.nil_append, List.cons_append]
  have HX : Hid (xs = pre ++ (tellE cs ++ post)) := hx
  clear hx
  gi_wp2
  gi_loopw [9] (fun i wr => ∃ (j : Nat) (Yr : Bl), j ≤ cs.length ∧ i = .int .i64 j ∧ J (pre ++ tellE (cs.take j)) Yr wr ∧ Fr Y W wr ∧ Grows W Y Yr) (fun i _ => cs.length - (intOf i).toNat)
  case atStart => exact ⟨0, Y, Nat.zero_le _, rfl, by simpa [tellE] using h0, Fr.refl _ _, Grows.refl _ _⟩
  case round =>
    obtain ⟨j, Yr, hj, rfl, hJr, hFr, hGr⟩ := hrel
    have zr := hFr.size
    have lYr := lJ _ _ _ hJr
    by_cases hlt : j < cs.length
    · obtain ⟨rb, ro, hca, hrb, k0, k1, k2⟩ := (hR.on (hFr.on (fun k hk => ⟨(hS k hk).2, (hS k hk).1⟩))).ch hlt
      subst hca
      obtain ⟨c, hcj⟩ : ∃ c, cs[j] = c := ⟨_, rfl⟩
      rw [hcj] at k0 k1 k2
      have HT : Hid (tellE (cs.take (j + 1)) = tellE (cs.take j) ++ (if c.gone = true then [] else [chE c])) := by show _ = _; rw [tellE_take cs j hlt, hcj]
      have HSP : Hid (c.gone = false → tellE cs = tellE (cs.take j) ++ chE c :: tellE (cs.drop (j + 1))) := by
        intro hg
        have := tellE_split cs j hlt (by rw [hcj]; exact hg)
        rw [hcj] at this; exact this
      obtain ⟨Wa, hWa⟩ : ∃ Wa, wr.alloc (.cells #[.string c.key, .string c.val, .bool c.gone] 100) = Wa := ⟨_, rfl⟩
      have xa : Wa.heap[wr.heap.size]? = some (.cells #[.string c.key, .string c.val, .bool c.gone] 100) := hWa ▸ heap_new wr _
      obtain ⟨g0, g1, g2⟩ := box3 xa
      have fa : Fr Bl.none wr Wa := hWa ▸ (Fr.refl _ wr).alloc _
      have gfr := free_of xa
      have hE := entry_any c Wa
      clear hcj hR
      cases hg : c.gone
      · have hpp : xs = (pre ++ tellE (cs.take j)) ++ chE c :: (tellE (cs.drop (j + 1)) ++ post) := by rw [HX.out, HSP.out hg]; simp
        have HP : Hid (xs = (pre ++ tellE (cs.take j)) ++ chE c :: (tellE (cs.drop (j + 1)) ++ post)) := hpp
        clear hpp
        rw [hg] at g2 k2 hE hWa xa
        have hsame := setCell_same (i := 2) xa (v := .bool false) rfl
        gi_wp2_with (refine ⟨trivial, rfl, ?_⟩; gi_at_call 67; refine (callsIn_wide.2 hE).mono ?_; clear hE; rintro e Wb ⟨rfl, hbb⟩; have fb : Fr Bl.none wr Wb := fa.trans (Fr.of_below hbb); have hJb := sJ _ _ _ _ hJr (fb.on (fun k hk => ⟨lYr k hk, fun h => h⟩)); obtain ⟨fn, tmps, assign, body, hy, hRr⟩ := hY _ (chE c) _ #[.agg #[.string c.key, .string c.val, .int .i64 c.val.size, .int .i64 0]] Bl.none Yr Wb HP.out hJb rfl (fun _ h => h.elim) ((hF.grow hFr hG).trans (fb.mono (fun _ h => h.elim))) (hG.trans hF.size hGr))
        refine ⟨rfl, (roundIn_any hRr).mono ?_⟩
        clear hy hRr
        have FB : Fr Y W Wb := hFr.trans (fb.mono (fun _ h => h.elim))
        rintro e Wf (⟨rfl, Y5, hJ5, hF5, hG5⟩ | ⟨rfl, Y5, hJ5, hF5, hG5⟩)
        · have HN : Hid (J (pre ++ tellE (cs.take (j + 1))) Y5 Wf) := by
            show J _ _ _
            rw [HT.out, hg, if_neg (by simp), ← List.append_assoc]; exact hJ5
          clear hJ5
          gi_wp2
          go_roundw
          case rel => exact ⟨j + 1, Y5, by omega, by go_num, HN.out, FB.grow hF5 hGr, hGr.trans FB.size hG5⟩
          case measure => simp [intOf]; omega
        · gi_wp2
          go_ret
          exact .inr ⟨rfl, Y5, _, by rw [HP.out]; exact ⟨tellE (cs.drop (j + 1)) ++ post, by simp⟩, by simp, hJ5, FB.grow hF5 hGr, hGr.trans FB.size hG5⟩
      · have HN : Hid (J (pre ++ tellE (cs.take (j + 1))) Yr Wa) := by
          show J _ _ _
          rw [HT.out, hg]; simpa using sJ _ _ _ _ hJr (fa.on (fun k hk => ⟨lYr k hk, fun h => h⟩))
        rw [hg] at g2 k2 hWa
        gi_wp2
        refine ⟨trivial, ?_⟩
        gi_wp2
        refine ⟨fun _ h => (by cases h), ?_⟩
        gi_wp2
        go_roundw
        case rel => exact ⟨j + 1, Yr, by omega, by go_num, HN.out, hFr.trans (fa.mono (fun _ h => h.elim)), hGr⟩
        case measure => simp [intOf]; omega
    · obtain rfl : j = cs.length := by omega
      have HJ : Hid (J (pre ++ tellE cs) Yr wr) := by rw [List.take_length] at hJr; exact hJr
      clear hJr
      gi_wp2
      go_ret
      exact .inl ⟨rfl, Yr, HJ.out, hFr, hGr⟩
end Go.Proofs.YtngpplmndpmgiaaGreat.Tree
namespace Go.Proofs.YtngpplmndpmgiaaGreat.Tree
open Go.RowKit Go.Proofs.YtngpplmndpmgiaaGreat.Pages
set_option linter.unusedSimpArgs false
set_option linter.unusedVariables false
abbrev MN.obj (m : MN) : Obj := .cells #[.string m.lo, .string m.hi, .int .i64 m.place, .slice m.ea m.en m.ec, .slice m.ka m.kn m.kc] 220
abbrev node00 : Obj := .cells #[.string ⟨#[]⟩, .string ⟨#[]⟩, .int .i64 0, .slice none 0 0, .slice none 0 0] 220
set_option maxRecDepth 100000 in
set_option maxHeartbeats 2000000 in
theorem loose_zero (β : Nat) (root : Int) (ca : Option Addr) (cn cc : Nat) (m : MN) (hp : ((m.place : Int) == 0) = true) (w : World) :
    Calls Tryz.prog 184 #[.agg #[.pointer (some ⟨β, 0, none⟩), .int .i64 root, .slice ca cn cc], .agg #[.string m.lo, .string m.hi, .int .i64 m.place, .slice m.ea m.en m.ec, .slice m.ka m.kn m.kc]] w fun e w' => e = .returned (.agg #[.string m.lo, .string m.hi, .int .i64 m.place, .slice m.ea m.en m.ec, .slice m.ka m.kn m.kc]) ∧ Below w.heap.size w w' := by
  obtain ⟨W1, hW1⟩ : ∃ W1, w.alloc (.cells #[.pointer (some ⟨β, 0, none⟩), .int .i64 root, .slice ca cn cc] 82) = W1 := ⟨_, rfl⟩
  obtain ⟨W2, hW2⟩ : ∃ W2, W1.alloc m.obj = W2 := ⟨_, rfl⟩
  obtain ⟨W3, hW3⟩ : ∃ W3, W2.alloc node00 = W3 := ⟨_, rfl⟩
  have z1 : W1.heap.size = w.heap.size + 1 := by rw [← hW1]; simp
  have z2 : W2.heap.size = w.heap.size + 1 + 1 := by rw [← hW2]; simp [z1]
  have x2 : W3.heap[w.heap.size + 1]? = some m.obj := by rw [← z1]; exact hW3 ▸ heap_keep _ (hW2 ▸ heap_new W1 _)
  have e2 : W3.heap[w.heap.size + 1 + 1]? = some node00 := by rw [← z2]; exact hW3 ▸ heap_new W2 _
  obtain ⟨a0, a1, a2, a3, a4⟩ := box5 x2
  obtain ⟨b0, b1, b2, b3, b4⟩ := box5 e2
  have bfr := free_of e2
  have e3 := set_of (set_of (set_of (set_of (set_of e2 0 (.string m.lo)) 1 (.string m.hi)) 2 (.int .i64 m.place)) 3 (.slice m.ea m.en m.ec)) 4 (.slice m.ka m.kn m.kc)
  obtain ⟨d0, d1, d2, d3, d4⟩ := box5 (w := (((((W3.setCell ⟨w.heap.size + 1 + 1, 0, none⟩ (.string m.lo)).setCell ⟨w.heap.size + 1 + 1, 1, none⟩ (.string m.hi)).setCell ⟨w.heap.size + 1 + 1, 2, none⟩ (.int .i64 m.place)).setCell ⟨w.heap.size + 1 + 1, 3, none⟩ (.slice m.ea m.en m.ec)).setCell ⟨w.heap.size + 1 + 1, 4, none⟩ (.slice m.ka m.kn m.kc))) (by simpa using e3)
  have HB : Hid (Below w.heap.size w (((((W3.setCell ⟨w.heap.size + 1 + 1, 0, none⟩ (.string m.lo)).setCell ⟨w.heap.size + 1 + 1, 1, none⟩ (.string m.hi)).setCell ⟨w.heap.size + 1 + 1, 2, none⟩ (.int .i64 m.place)).setCell ⟨w.heap.size + 1 + 1, 3, none⟩ (.slice m.ea m.en m.ec)).setCell ⟨w.heap.size + 1 + 1, 4, none⟩ (.slice m.ka m.kn m.kc))) := by
    have h0 : Below w.heap.size w W3 := by rw [← hW3, ← hW2, ← hW1]; exact (((Below.refl _ _).alloc (Nat.le_refl _) _).alloc (by simp) _).alloc (by simp; omega) _
    exact ((((h0.setCell (p := ⟨w.heap.size + 1 + 1, 0, none⟩) (by simp; omega) _).setCell (p := ⟨w.heap.size + 1 + 1, 1, none⟩) (by simp; omega) _).setCell (p := ⟨w.heap.size + 1 + 1, 2, none⟩) (by simp; omega) _).setCell (p := ⟨w.heap.size + 1 + 1, 3, none⟩) (by simp; omega) _).setCell (p := ⟨w.heap.size + 1 + 1, 4, none⟩) (by simp; omega) _
  clear x2 e2 e3
  go_enter Tryz.func184, Tryz.ntmps184
  go_wp2
  refine bodyPost_ret (v := .agg #[.string m.lo, .string m.hi, .int .i64 m.place, .slice m.ea m.en m.ec, .slice m.ka m.kn m.kc]) ?_ rfl ⟨rfl, HB.out⟩
  simp [results, Tryz.results184, go_sem, d0, d1, d2, d3, d4]
end Go.Proofs.YtngpplmndpmgiaaGreat.Tree
