/-
  What lies in memory while keep runs: the book, the page, their rows.
-/
import Derived.Test.YtjmmfpolkkglaaaBook3
namespace Go.Proofs.Ytjmmfpolkkglaaa.Pages
open Go.RowKit
set_option linter.unusedSimpArgs false
set_option linter.unusedVariables false

/-- blocks of other elements are as they were -/
def KeptB (t : TypeId) (w w' : World) : Prop := ∀ (k : Nat) (cs : Array Value) (e : TypeId) (fz : Nat × Nat), e ≠ t → w.heap[k]? = some (Obj.cells cs e fz) → w'.heap[k]? = some (Obj.cells cs e fz)
theorem own_keptB {t : TypeId} {w w' : World} (h : KeptB t w w') {B : Nat} {e : TypeId} {z : Nat} {v : Value} {n : Nat} {xs : List Value} (he : e ≠ t) (ho : w.ownsRow B e z v n xs) : w'.ownsRow B e z v n xs := by
  obtain ⟨hl, hn | ⟨g, cap, cur, hv, hb, hg, hr⟩⟩ := ho
  · exact ⟨hl, .inl hn⟩
  · exact ⟨hl, .inr ⟨g, cap, cur, hv, hb, h g cur e _ he hg, hr⟩⟩
theorem own_cell_of {w : World} {B : Nat} {e : TypeId} {z : Nat} {v : Value} {n : Nat} {xs : List Value} (ho : w.ownsRow B e z v n xs) {b : Nat} (hb : v.ownBlock = some b) : ∃ cs, w.heap[b]? = some (.cells cs e (0, 0)) := by
  obtain ⟨hl, ⟨rfl, _⟩ | ⟨g, cap, cur, rfl, _, hg, _⟩⟩ := ho
  · simp [Value.ownBlock] at hb
  · simp [Value.ownBlock] at hb
    subst hb
    exact ⟨cur, hg⟩
theorem keptB_set {w : World} {g j : Nat} {u : Value} {cs : Array Value} {e : TypeId} {fz : Nat × Nat} (hg : w.heap[g]? = some (.cells cs e fz)) : KeptB e w (w.setCell ⟨g, j, none⟩ u) := by
  intro k cs2 e2 fz2 he hk
  have hne : k ≠ g := fun h => by rw [h, hg] at hk; simp at hk; exact he hk.2.1.symm
  rw [Below.heap_setCell _ _ _ _ hne]
  exact hk
theorem keptB_grown {w w' : World} {B : Nat} {e : TypeId} {z : Nat} {v : Value} {n : Nat} {xs : List Value} (ho : w.ownsRow B e z v n xs) (hg : w.grownBy w' v.ownBlock) : KeptB e w w' := by
  intro k cs2 e2 fz2 he hk
  have hne : some k ≠ v.ownBlock := fun h => by
    obtain ⟨cs, hc⟩ := own_cell_of ho h.symm
    rw [hk] at hc
    simp at hc
    exact he hc.2.1
  rw [hg.block k (Array.getElem?_eq_some_iff.1 hk).1 hne]
  exact hk
theorem keptB_below {w w' : World} (t : TypeId) (h : Below w.heap.size w w') : KeptB t w w' := fun k cs e fz _ hk => (h.block k (Array.getElem?_eq_some_iff.1 hk).1).trans hk
theorem KeptB.trans {t : TypeId} {a b c : World} (h : KeptB t a b) (k : KeptB t b c) : KeptB t a c := fun i cs e fz he hi => k i cs e fz he (h i cs e fz he hi)
/-- one of the book's three rows, the lists in it, and the page's row of the same elements -/
structure Grp (w : World) (E T : TypeId) (z : Nat) (cut : Nat → List Value) (B0 B : Nat) (VT : Value) (TS : List Value) (v : Value) (n : Nat) (xs : List Value) : Prop where
  ot : w.ownsRow B0 T 1 VT TS.length TS
  ct : ∀ (j : Nat) (h : j < TS.length), ∃ m, m ≤ 400 ∧ w.ownsRow 0 E z TS[j] m ((List.replicate m (cut j)).flatten) ∧ ((∀ b, TS[j].ownBlock = some b → b < B) ∨ m ≤ n)
  rv : w.ownsRow B E z v n xs
section
variable {w w' : World} {E T t : TypeId} {z : Nat} {cut : Nat → List Value} {B0 B : Nat} {VT : Value} {TS : List Value} {v : Value} {n : Nat} {xs : List Value}
theorem Grp.kept (h : Grp w E T z cut B0 B VT TS v n xs) (hk : KeptB t w w') (h1 : E ≠ t) (h2 : T ≠ t) : Grp w' E T z cut B0 B VT TS v n xs :=
  ⟨own_keptB hk h2 h.ot, fun j hj => by obtain ⟨m, hm, hc, hd⟩ := h.ct j hj; exact ⟨m, hm, own_keptB hk h1 hc, hd⟩, own_keptB hk h1 h.rv⟩
theorem own_below {w w' : World} (hb : Below w.heap.size w w') {B : Nat} {e : TypeId} {z : Nat} {v : Value} {n : Nat} {xs : List Value} (ho : w.ownsRow B e z v n xs) : w'.ownsRow B e z v n xs :=
  World.ownsRow.kept (row := none) ho ⟨hb.os, hb.tape, hb.output, hb.size, fun k hk _ => hb.block k hk⟩ (by cases v.ownBlock <;> simp)
theorem Grp.below (h : Grp w E T z cut B0 B VT TS v n xs) (hb : Below w.heap.size w w') : Grp w' E T z cut B0 B VT TS v n xs :=
  ⟨own_below hb h.ot, fun j hj => by obtain ⟨m, hm, hc, hd⟩ := h.ct j hj; exact ⟨m, hm, own_below hb hc, hd⟩, own_below hb h.rv⟩
theorem nil_zero {w : World} {B : Nat} {e : TypeId} {z : Nat} {v : Value} {n : Nat} {xs : List Value} (ho : w.ownsRow B e z v n xs) (h : v.ownBlock = none) : n = 0 := by
  obtain ⟨_, ⟨_, h0⟩ | ⟨g, c, r, rfl, _⟩⟩ := ho
  · exact h0
  · simp [Value.ownBlock] at h
theorem _root_.Go.World.ownsRow.base0 {w : World} {B : Nat} {e : TypeId} {z : Nat} {v : Value} {n : Nat} {xs : List Value} (h : w.ownsRow B e z v n xs) : w.ownsRow 0 e z v n xs := by
  obtain ⟨hl, hn | ⟨k, cap, row, hv, hk, hr⟩⟩ := h
  · exact ⟨hl, .inl hn⟩
  · exact ⟨hl, .inr ⟨k, cap, row, hv, Nat.zero_le _, hr⟩⟩
/-- a row below B is another one, or empty -/
theorem other_row (h : w.ownsRow B E z v n xs) {base2 n2 : Nat} {v2 : Value} {xs2 : List Value} (h2 : w.ownsRow base2 E z v2 n2 xs2) (hb : ∀ b, v2.ownBlock = some b → b < B) : v2.ownBlock ≠ v.ownBlock ∨ n2 ≤ n := by
  by_cases he : v2.ownBlock = v.ownBlock
  · right
    cases hv : v2.ownBlock with
    | none => rw [nil_zero h2 hv]; exact Nat.zero_le _
    | some b =>
      have h3 := hb b hv
      have h4 := (World.ownsRow.lt (w := w) h b (by rw [← he]; exact hv)).1
      omega
  · exact .inl he
/-- the page's row grows -/
theorem Grp.ext (h : Grp w E T z cut B0 B VT TS v n xs) {v' : Value} {ys : List Value} (ho : w'.ownsRow B E z v' (n + 1) (xs ++ ys)) (hg : w.grownBy w' v.ownBlock)
    (hc : ∀ base2 n2 v2 xs2, w.ownsRow base2 E z v2 n2 xs2 → (v2.ownBlock ≠ v.ownBlock ∨ n2 ≤ n) → w'.ownsRow base2 E z v2 n2 xs2) (hET : T ≠ E) : Grp w' E T z cut B0 B VT TS v' (n + 1) (xs ++ ys) := by
  refine ⟨own_keptB (keptB_grown h.rv hg) hET h.ot, fun j hj => ?_, ho⟩
  obtain ⟨m, hm, hcu, hd⟩ := h.ct j hj
  refine ⟨m, hm, hc _ _ _ _ hcu ?_, ?_⟩
  · rcases hd with hd | hd
    · exact other_row h.rv hcu hd
    · exact .inr hd
  · rcases hd with hd | hd
    · exact .inl hd
    · exact .inr (by omega)
/-- the page's row is laid into the book -/
theorem Grp.lay (h : Grp w E T z cut B0 B VT TS v n xs) {VT' : Value} (ho : w'.ownsRow B0 T 1 VT' (TS.length + 1) (TS ++ [v])) (hg : w.grownBy w' VT.ownBlock) (hET : E ≠ T) (hn : n ≤ 400) (hx : xs = (List.replicate n (cut TS.length)).flatten) : Grp w' E T z cut B0 B VT' (TS ++ [v]) v n xs := by
  have hk := keptB_grown h.ot hg
  refine ⟨by rw [List.length_append]; exact ho, fun j hj => ?_, own_keptB hk hET h.rv⟩
  by_cases hlt : j < TS.length
  · obtain ⟨m, hm, hcu, hd⟩ := h.ct j hlt
    rw [List.getElem_append_left hlt]
    exact ⟨m, hm, own_keptB hk hET hcu, hd⟩
  · have hj' : j = TS.length := by simp at hj; omega
    subst hj'
    rw [List.getElem_append_right (Nat.le_refl _)]
    simp only [Nat.sub_self, List.getElem_cons_zero]
    refine ⟨n, hn, ?_, .inr (Nat.le_refl _)⟩
    rw [← hx]
    exact (own_keptB hk hET h.rv).base0
/-- the page's row is written into -/
theorem Grp.store {g c : Nat} (h : Grp w E T z cut B0 B VT TS (.slice (some ⟨g, 0, none⟩) n c) n xs) (hlo : ∀ (j : Nat) (h : j < TS.length) b, TS[j].ownBlock = some b → b < B) (hET : T ≠ E) (i : Nat) (u : Value) : Grp (w.setCell ⟨g, i, none⟩ u) E T z cut B0 B VT TS (.slice (some ⟨g, 0, none⟩) n c) n (xs.set i u) := by
  obtain ⟨hs1, hs2⟩ := World.ownsRow.stored (w := w) h.rv i u
  obtain ⟨cs, hcs⟩ := own_cell_of h.rv rfl
  have hgB := (World.ownsRow.lt (w := w) h.rv g rfl).1
  refine ⟨own_keptB (keptB_set hcs) hET h.ot, fun j hj => ?_, hs1⟩
  obtain ⟨m, hm, hcu, hd⟩ := h.ct j hj
  refine ⟨m, hm, World.ownsRow.kept hcu hs2 ?_, hd⟩
  cases hv : TS[j].ownBlock with
  | none => exact .inl rfl
  | some b => exact .inr (fun e => by have := hlo j hj b hv; simp at e; omega)
end
/-- rows of texts that lie below B are as they were -/
def FarS (B : Nat) (w w' : World) : Prop := ∀ (base : Nat) (v : Value) (n : Nat) (xs : List Value), (∀ b, v.ownBlock = some b → b < B) → w.ownsRow base 9 1 v n xs → w'.ownsRow base 9 1 v n xs
theorem FarS.refl (B : Nat) (w : World) : FarS B w w := fun _ _ _ _ _ h => h
theorem FarS.trans {B : Nat} {a b c : World} (h : FarS B a b) (k : FarS B b c) : FarS B a c := fun base v n xs hv ho => k base v n xs hv (h base v n xs hv ho)
theorem FarS.kept {B : Nat} {t : TypeId} {w w' : World} (h : KeptB t w w') (ht : 9 ≠ t) : FarS B w w' := fun _ _ _ _ _ ho => own_keptB h ht ho
theorem FarS.below {B : Nat} {w w' : World} (hb : Below w.heap.size w w') : FarS B w w' := fun base v n xs _ ho => own_below hb ho
theorem FarS.store {B : Nat} {w : World} {g n c : Nat} {xs : List Value} (h : w.ownsRow B 9 1 (.slice (some ⟨g, 0, none⟩) n c) n xs) (i : Nat) (u : Value) : FarS B w (w.setCell ⟨g, i, none⟩ u) := fun base v m ys hv ho => by
  obtain ⟨_, hs2⟩ := World.ownsRow.stored (w := w) h i u
  have hgB := (World.ownsRow.lt (w := w) h g rfl).1
  refine World.ownsRow.kept ho hs2 ?_
  cases hb : v.ownBlock with
  | none => exact .inl rfl
  | some b => exact .inr (fun e => by have := hv b hb; simp at e; omega)
theorem FarS.ext {B : Nat} {w w' : World} {v : Value} {n : Nat} {xs : List Value} (h : w.ownsRow B 9 1 v n xs) (hc : ∀ base2 n2 v2 xs2, w.ownsRow base2 9 1 v2 n2 xs2 → (v2.ownBlock ≠ v.ownBlock ∨ n2 ≤ n) → w'.ownsRow base2 9 1 v2 n2 xs2) : FarS B w w' :=
  fun base v2 n2 ys hv ho => hc _ _ _ _ ho (other_row h ho hv)
/-- what lies on the desk -/
structure Desk (w wr : World) (B0 B β γ : Nat) (PB : Array Value) (VT VI VE : Value) (TS IS ES : List Value) (vk : Value) (nk : Nat) (xk : List Value) (vn : Value) (nn : Nat) (xn : List Value) (vx : Value) (nx : Nat) (xx : List Value) : Prop where
  box : wr.heap[β]? = some (Obj.cells #[VT, VI, VE, .slice none 0 0] 42)
  pb : wr.heap[γ]? = some (Obj.cells PB 28)
  g1 : Grp wr 9 24 1 cutT B0 B VT TS vk nk xk
  g2 : Grp wr 3 25 1 cutI B0 B VI IS vn nn xn
  g3 : Grp wr 52 26 4 cutE B0 B VE ES vx nx xx
  bel : Below B0 w wr
  far : FarS B w wr
  sz : B ≤ wr.heap.size
section
variable {w wr : World} {B0 B β γ : Nat} {PB : Array Value} {VT VI VE : Value} {TS IS ES : List Value} {vk : Value} {nk : Nat} {xk : List Value} {vn : Value} {nn : Nat} {xn : List Value} {vx : Value} {nx : Nat} {xx : List Value}
theorem Desk.below (h : Desk w wr B0 B β γ PB VT VI VE TS IS ES vk nk xk vn nn xn vx nx xx) {w' : World} (hb : Below wr.heap.size wr w') (hB : B0 ≤ B) : Desk w w' B0 B β γ PB VT VI VE TS IS ES vk nk xk vn nn xn vx nx xx :=
  ⟨(hb.block β (Array.getElem?_eq_some_iff.1 h.box).1).trans h.box, (hb.block γ (Array.getElem?_eq_some_iff.1 h.pb).1).trans h.pb, h.g1.below hb, h.g2.below hb, h.g3.below hb, h.bel.trans (hb.mono (Nat.le_trans hB h.sz)), h.far.trans (FarS.below hb), Nat.le_trans h.sz hb.size⟩
theorem Desk.store1 {g c : Nat} (h : Desk w wr B0 B β γ PB VT VI VE TS IS ES (.slice (some ⟨g, 0, none⟩) nk c) nk xk vn nn xn vx nx xx) (hlo : ∀ (j : Nat) (h : j < TS.length) b, TS[j].ownBlock = some b → b < B) (hB : B0 ≤ B) (i : Nat) (u : Value) : Desk w (wr.setCell ⟨g, i, none⟩ u) B0 B β γ PB VT VI VE TS IS ES (.slice (some ⟨g, 0, none⟩) nk c) nk (xk.set i u) vn nn xn vx nx xx := by
  obtain ⟨cs, hcs⟩ := own_cell_of h.g1.rv rfl
  have hk := keptB_set (j := i) (u := u) hcs
  have hgB := (World.ownsRow.lt (w := wr) h.g1.rv g rfl).1
  exact ⟨hk β _ _ _ (by decide) h.box, hk γ _ _ _ (by decide) h.pb, h.g1.store hlo (by decide) i u, h.g2.kept hk (by decide) (by decide), h.g3.kept hk (by decide) (by decide), h.bel.setCell (Nat.le_trans hB hgB) u, h.far.trans (FarS.store h.g1.rv i u), by have := h.sz; simpa [World.setCell] using this⟩
theorem Desk.store2 {g c : Nat} (h : Desk w wr B0 B β γ PB VT VI VE TS IS ES vk nk xk (.slice (some ⟨g, 0, none⟩) nn c) nn xn vx nx xx) (hlo : ∀ (j : Nat) (h : j < IS.length) b, IS[j].ownBlock = some b → b < B) (hB : B0 ≤ B) (i : Nat) (u : Value) : Desk w (wr.setCell ⟨g, i, none⟩ u) B0 B β γ PB VT VI VE TS IS ES vk nk xk (.slice (some ⟨g, 0, none⟩) nn c) nn (xn.set i u) vx nx xx := by
  obtain ⟨cs, hcs⟩ := own_cell_of h.g2.rv rfl
  have hk := keptB_set (j := i) (u := u) hcs
  have hgB := (World.ownsRow.lt (w := wr) h.g2.rv g rfl).1
  exact ⟨hk β _ _ _ (by decide) h.box, hk γ _ _ _ (by decide) h.pb, h.g1.kept hk (by decide) (by decide), h.g2.store hlo (by decide) i u, h.g3.kept hk (by decide) (by decide), h.bel.setCell (Nat.le_trans hB hgB) u, h.far.trans (FarS.kept hk (by decide)), by have := h.sz; simpa [World.setCell] using this⟩
theorem Desk.store3 {g c : Nat} (h : Desk w wr B0 B β γ PB VT VI VE TS IS ES vk nk xk vn nn xn (.slice (some ⟨g, 0, none⟩) nx c) nx xx) (hlo : ∀ (j : Nat) (h : j < ES.length) b, ES[j].ownBlock = some b → b < B) (hB : B0 ≤ B) (i : Nat) (u : Value) : Desk w (wr.setCell ⟨g, i, none⟩ u) B0 B β γ PB VT VI VE TS IS ES vk nk xk vn nn xn (.slice (some ⟨g, 0, none⟩) nx c) nx (xx.set i u) := by
  obtain ⟨cs, hcs⟩ := own_cell_of h.g3.rv rfl
  have hk := keptB_set (j := i) (u := u) hcs
  have hgB := (World.ownsRow.lt (w := wr) h.g3.rv g rfl).1
  exact ⟨hk β _ _ _ (by decide) h.box, hk γ _ _ _ (by decide) h.pb, h.g1.kept hk (by decide) (by decide), h.g2.kept hk (by decide) (by decide), h.g3.store hlo (by decide) i u, h.bel.setCell (Nat.le_trans hB hgB) u, h.far.trans (FarS.kept hk (by decide)), by have := h.sz; simpa [World.setCell] using this⟩
theorem Desk.ext1 (h : Desk w wr B0 B β γ PB VT VI VE TS IS ES vk nk xk vn nn xn vx nx xx) {w' : World} {v' : Value} {ys : List Value} (ho : w'.ownsRow B 9 1 v' (nk + 1) (xk ++ ys)) (hg : wr.grownBy w' vk.ownBlock)
    (hc : ∀ base2 n2 v2 xs2, wr.ownsRow base2 9 1 v2 n2 xs2 → (v2.ownBlock ≠ vk.ownBlock ∨ n2 ≤ nk) → w'.ownsRow base2 9 1 v2 n2 xs2) (hB : B0 ≤ B) : Desk w w' B0 B β γ PB VT VI VE TS IS ES v' (nk + 1) (xk ++ ys) vn nn xn vx nx xx := by
  have hk := keptB_grown h.g1.rv hg
  exact ⟨hk β _ _ _ (by decide) h.box, hk γ _ _ _ (by decide) h.pb, h.g1.ext ho hg hc (by decide), h.g2.kept hk (by decide) (by decide), h.g3.kept hk (by decide) (by decide), h.bel.grown hg (Nat.le_trans hB h.sz) (fun b hb => Nat.le_trans hB (World.ownsRow.lt (w := wr) h.g1.rv b hb).1), h.far.trans (FarS.ext h.g1.rv hc), Nat.le_trans h.sz hg.size⟩
theorem Desk.lay1 (h : Desk w wr B0 B β γ PB VT VI VE TS IS ES vk nk xk vn nn xn vx nx xx) {w' : World} {V' : Value} (ho : w'.ownsRow B0 24 1 V' (TS.length + 1) (TS ++ [vk])) (hg : wr.grownBy w' VT.ownBlock) (hB : B0 ≤ B) (hβ : B0 ≤ β) (hn : nk ≤ 400) (hx : xk = (List.replicate nk (cutT TS.length)).flatten) : Desk w (w'.setCell ⟨β, 0, none⟩ V') B0 B β γ PB V' VI VE (TS ++ [vk]) IS ES vk nk xk vn nn xn vx nx xx := by
  have hk := keptB_grown h.g1.ot hg
  have hbx := hk β _ _ _ (by decide) h.box
  have hk2 := keptB_set (j := 0) (u := V') hbx
  have hs := set_of hbx 0 V'
  exact ⟨by simpa using hs, hk2 γ _ _ _ (by decide) (hk γ _ _ _ (by decide) h.pb), (h.g1.lay ho hg (by decide) hn hx).kept hk2 (by decide) (by decide), (h.g2.kept hk (by decide) (by decide)).kept hk2 (by decide) (by decide), (h.g3.kept hk (by decide) (by decide)).kept hk2 (by decide) (by decide), (h.bel.grown hg (Nat.le_trans hB h.sz) (fun b hb => (World.ownsRow.lt (w := wr) h.g1.ot b hb).1)).setCell hβ V', (h.far.trans (FarS.kept hk (by decide))).trans (FarS.kept hk2 (by decide)), by have := Nat.le_trans h.sz hg.size; simpa [World.setCell] using this⟩
theorem Desk.ext2 (h : Desk w wr B0 B β γ PB VT VI VE TS IS ES vk nk xk vn nn xn vx nx xx) {w' : World} {v' : Value} {ys : List Value} (ho : w'.ownsRow B 3 1 v' (nn + 1) (xn ++ ys)) (hg : wr.grownBy w' vn.ownBlock)
    (hc : ∀ base2 n2 v2 xs2, wr.ownsRow base2 3 1 v2 n2 xs2 → (v2.ownBlock ≠ vn.ownBlock ∨ n2 ≤ nn) → w'.ownsRow base2 3 1 v2 n2 xs2) (hB : B0 ≤ B) : Desk w w' B0 B β γ PB VT VI VE TS IS ES vk nk xk v' (nn + 1) (xn ++ ys) vx nx xx := by
  have hk := keptB_grown h.g2.rv hg
  exact ⟨hk β _ _ _ (by decide) h.box, hk γ _ _ _ (by decide) h.pb, h.g1.kept hk (by decide) (by decide), h.g2.ext ho hg hc (by decide), h.g3.kept hk (by decide) (by decide), h.bel.grown hg (Nat.le_trans hB h.sz) (fun b hb => Nat.le_trans hB (World.ownsRow.lt (w := wr) h.g2.rv b hb).1), h.far.trans (FarS.kept hk (by decide)), Nat.le_trans h.sz hg.size⟩
theorem Desk.lay2 (h : Desk w wr B0 B β γ PB VT VI VE TS IS ES vk nk xk vn nn xn vx nx xx) {w' : World} {V' : Value} (ho : w'.ownsRow B0 25 1 V' (IS.length + 1) (IS ++ [vn])) (hg : wr.grownBy w' VI.ownBlock) (hB : B0 ≤ B) (hβ : B0 ≤ β) (hn : nn ≤ 400) (hx : xn = (List.replicate nn (cutI IS.length)).flatten) : Desk w (w'.setCell ⟨β, 1, none⟩ V') B0 B β γ PB VT V' VE TS (IS ++ [vn]) ES vk nk xk vn nn xn vx nx xx := by
  have hk := keptB_grown h.g2.ot hg
  have hbx := hk β _ _ _ (by decide) h.box
  have hk2 := keptB_set (j := 1) (u := V') hbx
  have hs := set_of hbx 1 V'
  exact ⟨by simpa using hs, hk2 γ _ _ _ (by decide) (hk γ _ _ _ (by decide) h.pb), (h.g1.kept hk (by decide) (by decide)).kept hk2 (by decide) (by decide), (h.g2.lay ho hg (by decide) hn hx).kept hk2 (by decide) (by decide), (h.g3.kept hk (by decide) (by decide)).kept hk2 (by decide) (by decide), (h.bel.grown hg (Nat.le_trans hB h.sz) (fun b hb => (World.ownsRow.lt (w := wr) h.g2.ot b hb).1)).setCell hβ V', (h.far.trans (FarS.kept hk (by decide))).trans (FarS.kept hk2 (by decide)), by have := Nat.le_trans h.sz hg.size; simpa [World.setCell] using this⟩
theorem Desk.ext3 (h : Desk w wr B0 B β γ PB VT VI VE TS IS ES vk nk xk vn nn xn vx nx xx) {w' : World} {v' : Value} {ys : List Value} (ho : w'.ownsRow B 52 4 v' (nx + 1) (xx ++ ys)) (hg : wr.grownBy w' vx.ownBlock)
    (hc : ∀ base2 n2 v2 xs2, wr.ownsRow base2 52 4 v2 n2 xs2 → (v2.ownBlock ≠ vx.ownBlock ∨ n2 ≤ nx) → w'.ownsRow base2 52 4 v2 n2 xs2) (hB : B0 ≤ B) : Desk w w' B0 B β γ PB VT VI VE TS IS ES vk nk xk vn nn xn v' (nx + 1) (xx ++ ys) := by
  have hk := keptB_grown h.g3.rv hg
  exact ⟨hk β _ _ _ (by decide) h.box, hk γ _ _ _ (by decide) h.pb, h.g1.kept hk (by decide) (by decide), h.g2.kept hk (by decide) (by decide), h.g3.ext ho hg hc (by decide), h.bel.grown hg (Nat.le_trans hB h.sz) (fun b hb => Nat.le_trans hB (World.ownsRow.lt (w := wr) h.g3.rv b hb).1), h.far.trans (FarS.kept hk (by decide)), Nat.le_trans h.sz hg.size⟩
theorem Desk.lay3 (h : Desk w wr B0 B β γ PB VT VI VE TS IS ES vk nk xk vn nn xn vx nx xx) {w' : World} {V' : Value} (ho : w'.ownsRow B0 26 1 V' (ES.length + 1) (ES ++ [vx])) (hg : wr.grownBy w' VE.ownBlock) (hB : B0 ≤ B) (hβ : B0 ≤ β) (hn : nx ≤ 400) (hx : xx = (List.replicate nx (cutE ES.length)).flatten) : Desk w (w'.setCell ⟨β, 2, none⟩ V') B0 B β γ PB VT VI V' TS IS (ES ++ [vx]) vk nk xk vn nn xn vx nx xx := by
  have hk := keptB_grown h.g3.ot hg
  have hbx := hk β _ _ _ (by decide) h.box
  have hk2 := keptB_set (j := 2) (u := V') hbx
  have hs := set_of hbx 2 V'
  exact ⟨by simpa using hs, hk2 γ _ _ _ (by decide) (hk γ _ _ _ (by decide) h.pb), (h.g1.kept hk (by decide) (by decide)).kept hk2 (by decide) (by decide), (h.g2.kept hk (by decide) (by decide)).kept hk2 (by decide) (by decide), (h.g3.lay ho hg (by decide) hn hx).kept hk2 (by decide) (by decide), (h.bel.grown hg (Nat.le_trans hB h.sz) (fun b hb => (World.ownsRow.lt (w := wr) h.g3.ot b hb).1)).setCell hβ V', (h.far.trans (FarS.kept hk (by decide))).trans (FarS.kept hk2 (by decide)), by have := Nat.le_trans h.sz hg.size; simpa [World.setCell] using this⟩
end
end Go.Proofs.Ytjmmfpolkkglaaa.Pages
