/-
  What appendEntry leaves: the bytes of a leaf's entry.
-/
import Derived.Test.YtjmmfpolkkglaaaBuf
import Derived.Test.YtjmmfpolkkglaaaSmall
namespace Go.Proofs.Ytjmmfpolkkglaaa.Pages
open Go.RowKit

def textB (s : ByteArray) : List UInt8 := [UInt8.ofNat s.size] ++ s.data.toList
def entBytes (k v : ByteArray) (n o : Int) : List UInt8 :=
  textB k ++ (if (o == 0) = true then [0] ++ textB v else [1] ++ beB 2 n ++ beB 2 o)

theorem heap_new (w : World) (o : Obj) : (w.alloc o).heap[w.heap.size]? = some o := by
  show (w.heap.push o)[w.heap.size]? = _
  simp

theorem box4 {w : World} {β : Nat} {a b c d : Value} {e : TypeId} (h : w.heap[β]? = some (.cells #[a, b, c, d] e)) :
    w.cell? ⟨β, 0, none⟩ = some a ∧ w.cell? ⟨β, 1, none⟩ = some b ∧ w.cell? ⟨β, 2, none⟩ = some c ∧ w.cell? ⟨β, 3, none⟩ = some d := by
  simp [World.cell?, h]

set_option maxHeartbeats 1000000 in
theorem appendEntry_any (b : Value) (k v : ByteArray) (n o : Int) (bs : List UInt8) (B : Nat) (w : World) (hv : Buf w B b bs) (hB : B ≤ w.heap.size) (hl : bs.length + k.size + v.size + 20 ≤ 140737488355328) :
    Calls Try.prog 40 #[b, .agg #[.string k, .string v, .int .i64 n, .int .i64 o]] w fun e w' => ∃ b', e = .returned b' ∧ Buf w' B b' (bs ++ entBytes k v n o) ∧ Grew B w w' := by
  have hBW : B ≤ (w.alloc (.cells #[.string k, .string v, .int .i64 n, .int .i64 o] 52)).heap.size := by simp; omega
  have hbox := heap_new w (.cells #[.string k, .string v, .int .i64 n, .int .i64 o] 52)
  have gW := (Grew.refl B w).alloc hB (.cells #[.string k, .string v, .int .i64 n, .int .i64 o] 52)
  have hvW := hv.alloc (.cells #[.string k, .string v, .int .i64 n, .int .i64 o] 52)
  have l0 : bs.length + k.size + 1 ≤ 140737488355328 := by omega
  have l1 : (bs ++ [UInt8.ofNat k.size] ++ k.data.toList).length + 1 ≤ 140737488355328 := by simp; omega
  have l4 : (bs ++ [UInt8.ofNat k.size] ++ k.data.toList ++ [0]).length + v.size + 1 ≤ 140737488355328 := by simp; omega
  cases ho : (o == 0)
  all_goals
    go_enter Try.func40, Try.ntmps40
    go_wp2_with (first
      | (go_at_call 41; refine (appendText_any _ _ _ B _ (by assumption) (by assumption) (by first | exact l0 | exact l4)).mono ?_; rintro e wn ⟨bn, rfl, hbn, gn⟩; have hxn := gn.other _ _ (by assumption) rfl; obtain ⟨e0, e1, e2, e3⟩ := box4 hxn; have Gn := Grew.trans (show Grew B w _ by assumption) gn; have hBn : B ≤ wn.heap.size := Nat.le_trans hB Gn.size; clear gn)
      | (go_at_call 52; refine (isInline_any _ _ _ _ _).mono ?_; rintro e wn ⟨rfl, hbl⟩; have gn := Grew.of_below hbl (by assumption); have hbm := Buf.below (by assumption) hbl; clear hbl; have hxn := gn.other _ _ (by assumption) rfl; obtain ⟨e0, e1, e2, e3⟩ := box4 hxn; have Gn := Grew.trans (show Grew B w _ by assumption) gn; have hBn : B ≤ wn.heap.size := Nat.le_trans hB Gn.size; clear gn)
      | (at_builtin; refine wp_append_byte _ rfl (.tmp 18) (.tmp 19) rfl B _ _ rfl (by assumption) (by assumption) _ 1 rfl rfl l1 ?_; intro bn wn hbn gn; have hxn := gn.other _ _ (by assumption) rfl; obtain ⟨e0, e1, e2, e3⟩ := box4 hxn; have Gn := Grew.trans (show Grew B w _ by assumption) gn; have hBn : B ≤ wn.heap.size := Nat.le_trans hB Gn.size; clear gn)
      | (at_builtin; refine wp_append_byte _ rfl (.tmp 11) (.tmp 12) rfl B _ _ rfl (by assumption) (by assumption) _ 0 rfl rfl l1 ?_; intro bn wn hbn gn; have hxn := gn.other _ _ (by assumption) rfl; obtain ⟨e0, e1, e2, e3⟩ := box4 hxn; have Gn := Grew.trans (show Grew B w _ by assumption) gn; have hBn : B ≤ wn.heap.size := Nat.le_trans hB Gn.size; clear gn)
      | (go_at_call 24; refine (appendNumber_z _ _ _ _ B _ (by assumption) (by assumption) (by decide) (by decide) (by simp [beB_length]; omega)).mono ?_; rintro e wn ⟨bn, rfl, hbn, gn⟩; have hxn := gn.other _ _ (by assumption) rfl; obtain ⟨e0, e1, e2, e3⟩ := box4 hxn; have Gn := Grew.trans (show Grew B w _ by assumption) gn; have hBn : B ≤ wn.heap.size := Nat.le_trans hB Gn.size; clear gn))
    go_ret
    exact ⟨_, rfl, by simpa [entBytes, textB, ho] using hbn, Gn⟩

theorem flat_snoc {α : Type} (f : α → List UInt8) (l : List α) (j : Nat) (h : j < l.length) : (l.take (j + 1)).flatMap f = (l.take j).flatMap f ++ f l[j] := by
  rw [List.take_succ_eq_append_getElem h]; simp only [List.flatMap_append, List.flatMap_cons, List.flatMap_nil, List.append_nil]
theorem flat_le {α : Type} (f : α → List UInt8) (l : List α) (j : Nat) (h : j < l.length) : ((l.take j).flatMap f).length + (f l[j]).length ≤ (l.flatMap f).length := by
  have e : l.flatMap f = (l.take (j + 1)).flatMap f ++ (l.drop (j + 1)).flatMap f := by rw [← List.flatMap_append, List.take_append_drop]
  rw [e, flat_snoc f l j h]; simp

theorem box8 {w : World} {β : Nat} {a b c d a' b' c' d' : Value} {e : TypeId} (h : w.heap[β]? = some (.cells #[a, b, c, d, a', b', c', d'] e)) :
    w.cell? ⟨β, 0, none⟩ = some a ∧ w.cell? ⟨β, 1, none⟩ = some b ∧ w.cell? ⟨β, 2, none⟩ = some c ∧ w.cell? ⟨β, 3, none⟩ = some d ∧
    w.cell? ⟨β, 4, none⟩ = some a' ∧ w.cell? ⟨β, 5, none⟩ = some b' ∧ w.cell? ⟨β, 6, none⟩ = some c' ∧ w.cell? ⟨β, 7, none⟩ = some d' := by
  simp [World.cell?, h]

def branchB (keys : List ByteArray) (kids : List Int) : List UInt8 := beB 1 keys.length ++ kids.flatMap (beB 2) ++ keys.flatMap textB

theorem RowAt.at {α : Type} {f : α → Value} {w : World} {B : Nat} {a : Option Addr} {l : List α} {j : Nat} (h : RowAt w B a (l.map f)) (hj : j < l.length) : ∃ b off, a = some ⟨b, off, none⟩ ∧ b < B ∧ w.cell? ⟨b, off + j, none⟩ = some (f l[j]) := by
  rcases h with h | ⟨b, off, ha, hb, hc⟩
  · simp at h; subst h; simp at hj
  · exact ⟨b, off, ha, hb, hc j _ (by simp [List.getElem?_eq_getElem hj])⟩

set_option maxHeartbeats 1000000 in
theorem appendBranch_any (b : Value) (kind ver root next : Int) (ka ia ea : Option Addr) (kc ic el ec : Nat) (data : ByteArray) (keys : List ByteArray) (kids : List Int) (bs : List UInt8) (B : Nat) (w : World)
    (hv : Buf w B b bs) (hB : B ≤ w.heap.size) (hK : RowAt w B ka (keys.map .string)) (hI : RowAt w B ia (kids.map (.int .i64))) (hkn : keys.length ≤ 1073741824) (hin : kids.length ≤ 1073741824) (hl : bs.length + (branchB keys kids).length + 8 ≤ 140737488355328) :
    Calls Try.prog 39 #[b, .agg #[.int .i64 kind, .int .i64 ver, .int .i64 root, .int .i64 next, .slice ka keys.length kc, .slice ia kids.length ic, .slice ea el ec, .string data]] w fun e w' => ∃ b', e = .returned b' ∧ Buf w' B b' (bs ++ branchB keys kids) ∧ Grew B w w' := by
  have hBW : B ≤ (w.alloc (.cells #[.int .i64 kind, .int .i64 ver, .int .i64 root, .int .i64 next, .slice ka keys.length kc, .slice ia kids.length ic, .slice ea el ec, .string data] 28)).heap.size := by simp; omega
  have hbox := heap_new w (.cells #[.int .i64 kind, .int .i64 ver, .int .i64 root, .int .i64 next, .slice ka keys.length kc, .slice ia kids.length ic, .slice ea el ec, .string data] 28)
  have gW := (Grew.refl B w).alloc hB (.cells #[.int .i64 kind, .int .i64 ver, .int .i64 root, .int .i64 next, .slice ka keys.length kc, .slice ia kids.length ic, .slice ea el ec, .string data] 28)
  have hvW := hv.alloc (.cells #[.int .i64 kind, .int .i64 ver, .int .i64 root, .int .i64 next, .slice ka keys.length kc, .slice ia kids.length ic, .slice ea el ec, .string data] 28)
  have l0 : bs.length + 8 ≤ 140737488355328 := by omega
  go_enter Try.func39, Try.ntmps39
  go_wp2_with (go_at_call 24; refine (appendNumber_z _ _ _ _ B _ (by assumption) (by assumption) (by decide) (by decide) l0).mono ?_; rintro e wn ⟨bn, rfl, hbn, gn⟩; have hxn := gn.other _ _ (by assumption) rfl; obtain ⟨e0, e1, e2, e3, e4, e5, e6, e7⟩ := box8 hxn; have Gn := Grew.trans (show Grew B w _ by assumption) gn; have hBn : B ≤ wn.heap.size := Nat.le_trans hB Gn.size; clear gn)
  clear hv hvW hbox gW hBW
  go_loopw [0, 17] (fun u i wr => ∃ j : Nat, j ≤ kids.length ∧ i = .int .i64 j ∧ Buf wr B u (bs ++ beB 1 keys.length ++ (kids.take j).flatMap (beB 2)) ∧ Grew B w wr ∧ wr.heap[w.heap.size]? = some (.cells #[.int .i64 kind, .int .i64 ver, .int .i64 root, .int .i64 next, .slice ka keys.length kc, .slice ia kids.length ic, .slice ea el ec, .string data] 28)) (fun _ i _ => kids.length - (intOf i).toNat)
  case atStart => exact ⟨0, Nat.zero_le _, rfl, by simpa using hbn, Gn, hxn⟩
  case round =>
    clear hbn Gn hxn e0 e1 e2 e3 e4 e5 e6 e7 hBn
    obtain ⟨j, hj, rfl, hbr, gr, hxr⟩ := hrel
    have hBr : B ≤ wr.heap.size := Nat.le_trans hB gr.size
    by_cases hlt : j < kids.length
    · obtain ⟨ib, io, hia, hib, hic⟩ := (hI.below gr.below).at hlt
      have lj := flat_le (beB 2) kids j hlt
      have l1 : (bs ++ beB 1 keys.length ++ (kids.take j).flatMap (beB 2)).length + 8 ≤ 140737488355328 := by simp only [branchB, beB_length, List.length_append] at hl lj ⊢; omega
      subst hia
      clear hK hI hl
      go_wp2_with (go_at_call 24; refine (appendNumber_z _ _ _ _ B _ (by assumption) (by assumption) (by decide) (by decide) l1).mono ?_; rintro e wn ⟨bn, rfl, hbn, gn⟩; have hxn := gn.other _ _ (by assumption) rfl; obtain ⟨e0, e1, e2, e3, e4, e5, e6, e7⟩ := box8 hxn; have Gn := Grew.trans (show Grew B w _ by assumption) gn; have hBn : B ≤ wn.heap.size := Nat.le_trans hB Gn.size; clear gn)
      go_roundw
      case rel => exact ⟨j + 1, by omega, by go_num, by rw [flat_snoc _ _ _ hlt, ← List.append_assoc]; exact hbn, Gn, hxn⟩
      case measure => simp [intOf]; omega
    · obtain rfl : j = kids.length := by omega
      rw [List.take_length] at hbr
      obtain ⟨e0, e1, e2, e3, e4, e5, e6, e7⟩ := box8 hxr
      go_wp2
      go_loopw [0, 28] (fun u i wr => ∃ j : Nat, j ≤ keys.length ∧ i = .int .i64 j ∧ Buf wr B u (bs ++ beB 1 keys.length ++ kids.flatMap (beB 2) ++ (keys.take j).flatMap textB) ∧ Grew B w wr ∧ wr.heap[w.heap.size]? = some (.cells #[.int .i64 kind, .int .i64 ver, .int .i64 root, .int .i64 next, .slice ka keys.length kc, .slice ia kids.length ic, .slice ea el ec, .string data] 28)) (fun _ i _ => keys.length - (intOf i).toNat)
      case atStart => exact ⟨0, Nat.zero_le _, rfl, by simpa using hbr, gr, hxr⟩
      case round =>
        clear hbr gr hxr e0 e1 e2 e3 e4 e5 e6 e7 hBr
        obtain ⟨j, hj, rfl, hbr, gr, hxr⟩ := hrel
        have hBr : B ≤ wr.heap.size := Nat.le_trans hB gr.size
        by_cases hlt : j < keys.length
        · obtain ⟨kb, ko, hka, hkb, hkc⟩ := (hK.below gr.below).at hlt
          have lj := flat_le textB keys j hlt
          have l1 : (bs ++ beB 1 keys.length ++ kids.flatMap (beB 2) ++ (keys.take j).flatMap textB).length + keys[j].size + 1 ≤ 140737488355328 := by simp only [branchB, textB, beB_length, List.length_append, data_length, List.length_cons, List.length_nil] at hl lj ⊢; omega
          subst hka
          clear hK hI hl
          go_wp2_with (go_at_call 41; refine (appendText_any _ _ _ B _ (by assumption) (by assumption) l1).mono ?_; rintro e wn ⟨bn, rfl, hbn, gn⟩; have hxn := gn.other _ _ (by assumption) rfl; obtain ⟨e0, e1, e2, e3, e4, e5, e6, e7⟩ := box8 hxn; have Gn := Grew.trans (show Grew B w _ by assumption) gn; have hBn : B ≤ wn.heap.size := Nat.le_trans hB Gn.size; clear gn)
          go_roundw
          case rel => exact ⟨j + 1, by omega, by go_num, by rw [flat_snoc _ _ _ hlt]; simpa [textB] using hbn, Gn, hxn⟩
          case measure => simp [intOf]; omega
        · obtain rfl : j = keys.length := by omega
          rw [List.take_length] at hbr
          clear hK hI hl
          go_wp2
          go_ret
          exact ⟨_, rfl, by simpa [branchB] using hbr, gr⟩
end Go.Proofs.Ytjmmfpolkkglaaa.Pages
