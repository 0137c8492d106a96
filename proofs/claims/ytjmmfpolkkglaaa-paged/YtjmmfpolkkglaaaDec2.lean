/-
  What page.Decode answers and leaves: 256 bytes.
-/
import Derived.Test.YtjmmfpolkkglaaaDec
namespace Go.Proofs.Ytjmmfpolkkglaaa.Pages
open Go.RowKit
set_option linter.unusedSimpArgs false
set_option linter.unusedVariables false

def Pg.encS (g : Pg) : ByteArray := Pages.encS g.kind g.ver g.root g.next g.keys g.kids g.ents g.data
def Pg.encE (g : Pg) : Int := Pages.encE g.kind g.ver g.root g.next g.keys g.kids g.ents g.data
def Pg.small (g : Pg) : Prop := Small g.keys g.kids g.ents g.data

theorem list_ne {a b : ByteArray} (h : a ≠ b) : (a.toList == b.toList) = false := by
  apply Bool.eq_false_iff.2
  intro e
  have e2 : a.toList = b.toList := by simpa using e
  rw [ByteArray.toList_eq, ByteArray.toList_eq] at e2
  exact h (ByteArray.ext (Array.toList_inj.1 e2))
theorem list_same {a b : ByteArray} (h : a = b) : (a.toList == b.toList) = true := by rw [h]; simp
/-- the page that Decode has read -/
abbrev pageG (G : Pg) (ka ia ea : Option Addr) (kc ic ec : Nat) : Obj := .cells #[.int .i64 G.kind, .int .i64 G.ver, .int .i64 G.root, .int .i64 G.next, .slice ka G.keys.length kc, .slice ia G.kids.length ic, .slice ea G.ents.length ec, .string G.data] 28
set_option maxRecDepth 100000 in
set_option maxHeartbeats 600000 in
theorem decode_bad (s : ByteArray) (w : World) (hs : s.size = 256) (hS : (readP s.data.toList).small) (hE : (readP s.data.toList).encE ≠ 0) :
    Calls Try.prog 15 #[.string s] w fun e w' => e = .returned (.tuple #[.agg #[.int .i64 0, .int .i64 0, .int .i64 0, .int .i64 0, .slice none 0 0, .slice none 0 0, .slice none 0 0, .string ⟨#[]⟩], .int .i64 2]) ∧ Below w.heap.size w w' := by
  have h1 : ((s.size : Int) != 256) = false := by simp; omega
  have hR := read_any s (w.alloc page0) hs
  have hn := heap_new w page0
  have hz := size_one w page0
  have hb0 : Below w.heap.size w (w.alloc page0) := (Below.refl _ w).alloc (Nat.le_refl _) _
  obtain ⟨G, hG⟩ : ∃ G, G = readP s.data.toList := ⟨_, rfl⟩
  rw [← hG] at hR hS hE
  rw [hz] at hR
  clear hs hG
  go_enter Try.func15, Try.ntmps15
  go_upto_region 4 with (go_at_call 28; refine hR.mono ?_; rintro e w1 ⟨v, rfl, ⟨vk, vi, ve, rfl, hK, hI, hEs⟩, hb1⟩; obtain ⟨ka, kc, rfl, rk⟩ := own_row hK; obtain ⟨ia, ic, rfl, ri⟩ := own_row hI; obtain ⟨ea, ec, rfl, re⟩ := own_row hEs)
  have hb2 : Below w1.heap.size w1 (w1.alloc (pageG G ka ia ea kc ic ec)) := (Below.refl _ w1).alloc (Nat.le_refl _) _
  have hz2 := size_one w1 (pageG G ka ia ea kc ic ec)
  have hP2 := heap_new w1 (pageG G ka ia ea kc ic ec)
  have hN2 := keep_alloc (x := pageG G ka ia ea kc ic ec) ((hb1.block w.heap.size (Nat.lt_succ_self _)).trans hn)
  have hlt : w.heap.size < w1.heap.size := (Array.getElem?_eq_some_iff.1 ((hb1.block w.heap.size (Nat.lt_succ_self _)).trans hn)).1
  generalize hw2 : w1.alloc (pageG G ka ia ea kc ic ec) = w2 at *
  clear hw2
  have hEn := encode_any G.kind G.ver G.root G.next ka ia ea kc ic ec G.data G.keys G.kids G.ents w2 ((rk.below hb2).mono (by omega)) ((ri.below hb2).mono (by omega)) ((re.below hb2).mono (by omega)) hS
  obtain ⟨c0, c1, c2, c3, c4, c5, c6, c7⟩ := box8 hP2
  have e1 : (Pages.encE G.kind G.ver G.root G.next G.keys G.kids G.ents G.data != 0) = true := by simpa [Pg.encE] using hE
  generalize Pages.encE G.kind G.ver G.root G.next G.keys G.kids G.ents G.data = EE at *
  generalize Pages.encS G.kind G.ver G.root G.next G.keys G.kids G.ents G.data = SS at *
  have hBB : Below w.heap.size w w2 := (hb0.trans (hb1.mono (by omega))).trans (hb2.mono (by omega))
  go_wp2_with (go_at_call 11; refine hEn.mono ?_; rintro e w3 ⟨rfl, hb3⟩; have hN3 := (hb3.block w.heap.size (by omega)).trans hN2; obtain ⟨z0, z1, z2, z3, z4, z5, z6, z7⟩ := box8 hN3; have hf3 := free_of hN3)
  have hN3 := (hb3.block w.heap.size (by omega)).trans hN2
  have hU := set8r hN3 (.int .i64 0) (.int .i64 0) (.int .i64 0) (.int .i64 0) (.slice none 0 0) (.slice none 0 0) (.slice none 0 0) (.string ⟨#[]⟩)
  obtain ⟨y0, y1, y2, y3, y4, y5, y6, y7⟩ := box8 hU
  refine bodyPost_ret (v := .tuple #[.agg #[.int .i64 0, .int .i64 0, .int .i64 0, .int .i64 0, .slice none 0 0, .slice none 0 0, .slice none 0 0, .string ⟨#[]⟩], .int .i64 2]) ?_ rfl ⟨rfl, below8r (hBB.trans (hb3.mono (by omega))) (β := w.heap.size) (Nat.le_refl _) (.int .i64 0) (.int .i64 0) (.int .i64 0) (.int .i64 0) (.slice none 0 0) (.slice none 0 0) (.slice none 0 0) (.string ⟨#[]⟩)⟩
  simp [results, Try.results15, go_sem, y0, y1, y2, y3, y4, y5, y6, y7]
set_option maxRecDepth 100000 in
set_option maxHeartbeats 600000 in
theorem decode_other (s : ByteArray) (w : World) (hs : s.size = 256) (hS : (readP s.data.toList).small) (hE : (readP s.data.toList).encE = 0) (hO : (readP s.data.toList).encS ≠ s) :
    Calls Try.prog 15 #[.string s] w fun e w' => e = .returned (.tuple #[.agg #[.int .i64 0, .int .i64 0, .int .i64 0, .int .i64 0, .slice none 0 0, .slice none 0 0, .slice none 0 0, .string ⟨#[]⟩], .int .i64 2]) ∧ Below w.heap.size w w' := by
  have h1 : ((s.size : Int) != 256) = false := by simp; omega
  have hR := read_any s (w.alloc page0) hs
  have hn := heap_new w page0
  have hz := size_one w page0
  have hb0 : Below w.heap.size w (w.alloc page0) := (Below.refl _ w).alloc (Nat.le_refl _) _
  obtain ⟨G, hG⟩ : ∃ G, G = readP s.data.toList := ⟨_, rfl⟩
  rw [← hG] at hR hS hE hO
  rw [hz] at hR
  clear hs hG
  go_enter Try.func15, Try.ntmps15
  go_upto_region 4 with (go_at_call 28; refine hR.mono ?_; rintro e w1 ⟨v, rfl, ⟨vk, vi, ve, rfl, hK, hI, hEs⟩, hb1⟩; obtain ⟨ka, kc, rfl, rk⟩ := own_row hK; obtain ⟨ia, ic, rfl, ri⟩ := own_row hI; obtain ⟨ea, ec, rfl, re⟩ := own_row hEs)
  have hb2 : Below w1.heap.size w1 (w1.alloc (pageG G ka ia ea kc ic ec)) := (Below.refl _ w1).alloc (Nat.le_refl _) _
  have hz2 := size_one w1 (pageG G ka ia ea kc ic ec)
  have hP2 := heap_new w1 (pageG G ka ia ea kc ic ec)
  have hN2 := keep_alloc (x := pageG G ka ia ea kc ic ec) ((hb1.block w.heap.size (Nat.lt_succ_self _)).trans hn)
  have hlt : w.heap.size < w1.heap.size := (Array.getElem?_eq_some_iff.1 ((hb1.block w.heap.size (Nat.lt_succ_self _)).trans hn)).1
  generalize hw2 : w1.alloc (pageG G ka ia ea kc ic ec) = w2 at *
  clear hw2
  have hEn := encode_any G.kind G.ver G.root G.next ka ia ea kc ic ec G.data G.keys G.kids G.ents w2 ((rk.below hb2).mono (by omega)) ((ri.below hb2).mono (by omega)) ((re.below hb2).mono (by omega)) hS
  obtain ⟨c0, c1, c2, c3, c4, c5, c6, c7⟩ := box8 hP2
  have e1 : Pages.encE G.kind G.ver G.root G.next G.keys G.kids G.ents G.data = 0 := hE
  have e3 : ((Pages.encS G.kind G.ver G.root G.next G.keys G.kids G.ents G.data).toList == s.toList) = false := list_ne hO
  generalize Pages.encE G.kind G.ver G.root G.next G.keys G.kids G.ents G.data = EE at *
  generalize Pages.encS G.kind G.ver G.root G.next G.keys G.kids G.ents G.data = SS at *
  subst e1
  have hBB : Below w.heap.size w w2 := (hb0.trans (hb1.mono (by omega))).trans (hb2.mono (by omega))
  go_wp2_with (go_at_call 11; refine hEn.mono ?_; rintro e w3 ⟨rfl, hb3⟩; have hN3 := (hb3.block w.heap.size (by omega)).trans hN2; obtain ⟨z0, z1, z2, z3, z4, z5, z6, z7⟩ := box8 hN3; have hf3 := free_of hN3)
  have hN3 := (hb3.block w.heap.size (by omega)).trans hN2
  have hU := set8r hN3 (.int .i64 0) (.int .i64 0) (.int .i64 0) (.int .i64 0) (.slice none 0 0) (.slice none 0 0) (.slice none 0 0) (.string ⟨#[]⟩)
  obtain ⟨y0, y1, y2, y3, y4, y5, y6, y7⟩ := box8 hU
  refine bodyPost_ret (v := .tuple #[.agg #[.int .i64 0, .int .i64 0, .int .i64 0, .int .i64 0, .slice none 0 0, .slice none 0 0, .slice none 0 0, .string ⟨#[]⟩], .int .i64 2]) ?_ rfl ⟨rfl, below8r (hBB.trans (hb3.mono (by omega))) (β := w.heap.size) (Nat.le_refl _) (.int .i64 0) (.int .i64 0) (.int .i64 0) (.int .i64 0) (.slice none 0 0) (.slice none 0 0) (.slice none 0 0) (.string ⟨#[]⟩)⟩
  simp [results, Try.results15, go_sem, y0, y1, y2, y3, y4, y5, y6, y7]
set_option maxRecDepth 100000 in
set_option maxHeartbeats 600000 in
theorem decode_good (s : ByteArray) (w : World) (hs : s.size = 256) (hS : (readP s.data.toList).small) (hE : (readP s.data.toList).encE = 0) (hO : (readP s.data.toList).encS = s) :
    Calls Try.prog 15 #[.string s] w fun e w' => ∃ v, e = .returned (.tuple #[v, .int .i64 0]) ∧ PgAt w' w.heap.size (readP s.data.toList) v ∧ Below w.heap.size w w' := by
  have h1 : ((s.size : Int) != 256) = false := by simp; omega
  have hR := read_any s (w.alloc page0) hs
  have hn := heap_new w page0
  have hz := size_one w page0
  have hb0 : Below w.heap.size w (w.alloc page0) := (Below.refl _ w).alloc (Nat.le_refl _) _
  obtain ⟨G, hG⟩ : ∃ G, G = readP s.data.toList := ⟨_, rfl⟩
  rw [← hG] at hR hS hE hO ⊢
  rw [hz] at hR
  clear hs hG
  go_enter Try.func15, Try.ntmps15
  go_upto_region 4 with (go_at_call 28; refine hR.mono ?_; rintro e w1 ⟨v, rfl, ⟨vk, vi, ve, rfl, hK, hI, hEs⟩, hb1⟩; obtain ⟨ka, kc, rfl, rk⟩ := own_row hK; obtain ⟨ia, ic, rfl, ri⟩ := own_row hI; obtain ⟨ea, ec, rfl, re⟩ := own_row hEs)
  have hb2 : Below w1.heap.size w1 (w1.alloc (pageG G ka ia ea kc ic ec)) := (Below.refl _ w1).alloc (Nat.le_refl _) _
  have hz2 := size_one w1 (pageG G ka ia ea kc ic ec)
  have hP2 := heap_new w1 (pageG G ka ia ea kc ic ec)
  have hN2 := keep_alloc (x := pageG G ka ia ea kc ic ec) ((hb1.block w.heap.size (Nat.lt_succ_self _)).trans hn)
  have hlt : w.heap.size < w1.heap.size := (Array.getElem?_eq_some_iff.1 ((hb1.block w.heap.size (Nat.lt_succ_self _)).trans hn)).1
  generalize hw2 : w1.alloc (pageG G ka ia ea kc ic ec) = w2 at *
  clear hw2
  have hEn := encode_any G.kind G.ver G.root G.next ka ia ea kc ic ec G.data G.keys G.kids G.ents w2 ((rk.below hb2).mono (by omega)) ((ri.below hb2).mono (by omega)) ((re.below hb2).mono (by omega)) hS
  obtain ⟨c0, c1, c2, c3, c4, c5, c6, c7⟩ := box8 hP2
  have e1 : Pages.encE G.kind G.ver G.root G.next G.keys G.kids G.ents G.data = 0 := hE
  have e3 : ((Pages.encS G.kind G.ver G.root G.next G.keys G.kids G.ents G.data).toList == s.toList) = true := list_same hO
  generalize Pages.encE G.kind G.ver G.root G.next G.keys G.kids G.ents G.data = EE at *
  generalize Pages.encS G.kind G.ver G.root G.next G.keys G.kids G.ents G.data = SS at *
  subst e1
  have hBB : Below w.heap.size w w2 := (hb0.trans (hb1.mono (by omega))).trans (hb2.mono (by omega))
  go_wp2_with (go_at_call 11; refine hEn.mono ?_; rintro e w3 ⟨rfl, hb3⟩; have hN3 := (hb3.block w.heap.size (by omega)).trans hN2; obtain ⟨z0, z1, z2, z3, z4, z5, z6, z7⟩ := box8 hN3; have hf3 := free_of hN3; have hP3 := (hb3.block w1.heap.size (by omega)).trans hP2; obtain ⟨d0, d1, d2, d3, d4, d5, d6, d7⟩ := box8 hP3)
  have hN3 := (hb3.block w.heap.size (by omega)).trans hN2
  have hU := set8r hN3 (.int .i64 G.kind) (.int .i64 G.ver) (.int .i64 G.root) (.int .i64 G.next) (.slice ka G.keys.length kc) (.slice ia G.kids.length ic) (.slice ea G.ents.length ec) (.string G.data)
  obtain ⟨y0, y1, y2, y3, y4, y5, y6, y7⟩ := box8 hU
  have hlz : w.heap.size < w.heap.size + 1 := Nat.lt_succ_self _
  have hBw : Below w1.heap.size w1 w3 := hb2.trans (hb3.mono (by omega))
  have hK3 : Keys w3 _ _ _ := hK.below hBw
  have hI3 : Ints w3 _ _ _ := own_only hI (Only.of_below (ρ := 0) hBw |> fun h => h) (by omega)
  have hE3 : EntsR w3 _ _ _ := hEs.only (Only.of_below (ρ := 0) hBw) (by omega)
  refine bodyPost_ret (v := .tuple #[.agg #[.int .i64 G.kind, .int .i64 G.ver, .int .i64 G.root, .int .i64 G.next, .slice ka G.keys.length kc, .slice ia G.kids.length ic, .slice ea G.ents.length ec, .string G.data], .int .i64 0]) ?_ rfl ⟨_, rfl, ⟨_, _, _, rfl, own_mono (own_set8 hK3 hlz (.int .i64 G.kind) (.int .i64 G.ver) (.int .i64 G.root) (.int .i64 G.next) (.slice ka G.keys.length kc) (.slice ia G.kids.length ic) (.slice ea G.ents.length ec) (.string G.data)) (by omega), own_mono (own_set8 hI3 hlz (.int .i64 G.kind) (.int .i64 G.ver) (.int .i64 G.root) (.int .i64 G.next) (.slice ka G.keys.length kc) (.slice ia G.kids.length ic) (.slice ea G.ents.length ec) (.string G.data)) (by omega), ((((((((hE3.set hlz 0 _).set hlz 1 _).set hlz 2 _).set hlz 3 _).set hlz 4 _).set hlz 5 _).set hlz 6 _).set hlz 7 _).mono (by omega)⟩, below8r (hBB.trans (hb3.mono (by omega))) (β := w.heap.size) (Nat.le_refl _) (.int .i64 G.kind) (.int .i64 G.ver) (.int .i64 G.root) (.int .i64 G.next) (.slice ka G.keys.length kc) (.slice ia G.kids.length ic) (.slice ea G.ents.length ec) (.string G.data)⟩
  simp [results, Try.results15, go_sem, y0, y1, y2, y3, y4, y5, y6, y7]
end Go.Proofs.Ytjmmfpolkkglaaa.Pages
