/-
  What page.read answers and leaves: any page.
-/
import Derived.Test.YtjmmfpolkkglaaaRead7
import Derived.Test.YtjmmfpolkkglaaaEnc
namespace Go.Proofs.Ytjmmfpolkkglaaa.Pages
open Go.RowKit
set_option linter.unusedSimpArgs false
set_option linter.unusedVariables false

/-- a page's content -/
structure Pg where
  kind : Int
  ver : Int
  root : Int
  next : Int
  keys : List ByteArray
  kids : List Int
  ents : List Ent
  data : ByteArray
/-- the page that is read off bytes, by its kind -/
def readK (bs : List UInt8) (k : Nat) : Pg :=
  if k = 1 then ⟨1, wrap64 (numV bs (posB bs 0 1) 8), (numV bs (posB bs (posB bs 0 1) 8) 2 : Nat), 0, [], [], [], ⟨#[]⟩⟩
  else if k = 2 then ⟨2, 0, 0, 0, keysR bs (posB bs (posB bs (posB bs 0 1) 1) (2 * ((bs.getD (posB bs 0 1) 0).toNat + 1))) (bs.getD (posB bs 0 1) 0).toNat, kidsR bs (posB bs (posB bs 0 1) 1) ((bs.getD (posB bs 0 1) 0).toNat + 1), [], ⟨#[]⟩⟩
  else if k = 3 then ⟨3, 0, 0, 0, [], [], entsR bs (posB bs (posB bs 0 1) 1) (bs.getD (posB bs 0 1) 0).toNat, ⟨#[]⟩⟩
  else if k = 4 then ⟨4, 0, 0, (numV bs (posB bs 0 1) 2 : Nat), [], [], [], ⟨(txtB bs (posB bs (posB bs 0 1) 2)).toArray⟩⟩
  else ⟨(k : Nat), 0, 0, 0, [], [], [], ⟨#[]⟩⟩
def readP (bs : List UInt8) : Pg := readK bs (bs.getD 0 0).toNat
/-- a page's value, its rows of the call's own -/
def PgAt (w : World) (B : Nat) (g : Pg) (v : Value) : Prop :=
  ∃ vk vi ve, v = .agg #[.int .i64 g.kind, .int .i64 g.ver, .int .i64 g.root, .int .i64 g.next, vk, vi, ve, .string g.data] ∧ Keys w B vk g.keys ∧ Ints w B vi g.kids ∧ EntsR w B ve g.ents

theorem read_any (s : ByteArray) (w : World) (hs : s.size = 256) :
    Calls Try.prog 28 #[.string s] w fun e w' => ∃ v, e = .returned v ∧ PgAt w' w.heap.size (readP s.data.toList) v ∧ Below w.heap.size w w' := by
  obtain ⟨k, hk⟩ : ∃ k, (s.data.toList.getD 0 0).toNat = k := ⟨_, rfl⟩
  unfold readP
  rw [hk]
  by_cases h1 : k = 1
  · subst h1
    rw [show readK s.data.toList 1 = _ from if_pos rfl]
    exact (read_meta s w hs hk).mono fun x w' ⟨he, hb⟩ => ⟨_, he, ⟨_, _, _, rfl, Keys.nil _ _, Ints.nil _ _, EntsR.nil _ _⟩, hb⟩
  by_cases h2 : k = 2
  · subst h2
    rw [show readK s.data.toList 2 = _ from (if_neg (by omega)).trans (if_pos rfl)]
    exact (read_branch s w hs hk _ rfl _ rfl _ rfl).mono fun x w' ⟨vk, vi, he, hK, hI, hb⟩ => ⟨_, he, ⟨_, _, _, rfl, hK, hI, EntsR.nil _ _⟩, hb⟩
  by_cases h3 : k = 3
  · subst h3
    rw [show readK s.data.toList 3 = _ from (if_neg (by omega)).trans ((if_neg (by omega)).trans (if_pos rfl))]
    exact (read_leaf s w hs hk _ rfl _ rfl _ rfl).mono fun x w' ⟨ve, he, hE, hb⟩ => ⟨_, he, ⟨_, _, _, rfl, Keys.nil _ _, Ints.nil _ _, hE⟩, hb⟩
  by_cases h4 : k = 4
  · subst h4
    rw [show readK s.data.toList 4 = _ from (if_neg (by omega)).trans ((if_neg (by omega)).trans ((if_neg (by omega)).trans (if_pos rfl)))]
    exact (read_over s w hs hk).mono fun x w' ⟨he, hb⟩ => ⟨_, he, ⟨_, _, _, rfl, Keys.nil _ _, Ints.nil _ _, EntsR.nil _ _⟩, hb⟩
  rw [show readK s.data.toList k = _ from (if_neg h1).trans ((if_neg h2).trans ((if_neg h3).trans (if_neg h4)))]
  exact (read_none s w hs k hk h1 h2 h3 h4).mono fun x w' ⟨he, hb⟩ => ⟨_, he, ⟨_, _, _, rfl, Keys.nil _ _, Ints.nil _ _, EntsR.nil _ _⟩, hb⟩
/-- a row of one's own, as a callee asks it -/
theorem own_row {w : World} {B : Nat} {e : TypeId} {z : Nat} {v : Value} {n : Nat} {xs : List Value} (h : w.ownsRow B e z v n xs) : ∃ a c, v = .slice a n c ∧ RowAt w w.heap.size a xs := by
  have hc := fun g hg => World.ownsRow.cells (w := w) h (g := g) hg
  have hlt := World.ownsRow.lt (w := w) h
  obtain ⟨hl, h2⟩ := id h
  rcases h2 with ⟨rfl, rfl⟩ | ⟨g, cap, cur, rfl, _⟩
  · exact ⟨none, 0, rfl, .inl (List.eq_nil_of_length_eq_zero (by simpa using hl))⟩
  · refine ⟨_, _, rfl, .inr ⟨g, 0, rfl, (hlt g rfl).2, fun i u hu => ?_⟩⟩
    have := hc g rfl i u hu
    have e : (⟨g, 0, none⟩ : Addr).add i = ⟨g, 0 + i, none⟩ := by unfold Addr.add; split <;> simp_all
    rw [e] at this
    exact this
end Go.Proofs.Ytjmmfpolkkglaaa.Pages
