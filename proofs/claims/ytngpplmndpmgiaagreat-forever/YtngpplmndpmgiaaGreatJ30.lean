/-
  Joined: CutN, NewL, Grow.
-/
import Derived.Test.YtngpplmndpmgiaaGreatJ29
namespace Go.Proofs.YtngpplmndpmgiaaGreat.Tree
open Go.RowKit Go.Proofs.YtngpplmndpmgiaaGreat.Pages
set_option linter.unusedSimpArgs false
set_option linter.unusedVariables false
structure MN where
  lo : ByteArray
  hi : ByteArray
  place : Nat
  ea : Option Addr
  en : Nat
  ec : Nat
  ka : Option Addr
  kn : Nat
  kc : Nat
def MN.cells (m : MN) : List Value := [.string m.lo, .string m.hi, .int .i64 m.place, .slice m.ea m.en m.ec, .slice m.ka m.kn m.kc]
abbrev MN.val (m : MN) : Value := .agg #[.string m.lo, .string m.hi, .int .i64 m.place, .slice m.ea m.en m.ec, .slice m.ka m.kn m.kc]
def ncells (ms : List MN) : List Value := ms.flatMap MN.cells
theorem ncells_flat (ms : List MN) : ncells ms = ms.flatMap MN.cells := rfl
theorem ncells_snoc (ms : List MN) (m : MN) : ncells (ms ++ [m]) = ncells ms ++ m.cells := by simp [ncells]
theorem ncells_append (ms ns : List MN) : ncells (ms ++ ns) = ncells ms ++ ncells ns := by simp [ncells]
theorem ncells_z (ms : List MN) : ∀ x ∈ ms, (MN.cells x).length = 5 := fun x _ => rfl
theorem ncells_len (ms : List MN) : (ncells ms).length = ms.length * 5 := flat_len ms (ncells_z ms)
theorem ncells_ne {ms : List MN} (h : 0 < ms.length) : ncells ms ≠ [] := by
  cases ms with
  | nil => simp at h
  | cons x l => simp [ncells, MN.cells]
theorem ncells_at {l : List MN} {j i : Nat} (hj : j < l.length) (hi : i < 5) : (ncells l)[j * 5 + i]? = (l[j].cells)[i]? := by
  have e : ncells l = ncells (l.take j) ++ (l[j].cells ++ ncells (l.drop (j + 1))) := by
    have : l = l.take j ++ (l[j] :: l.drop (j + 1)) := by simp
    conv => lhs; rw [this]
    rw [ncells_append]; rfl
  have e2 : (ncells (l.take j)).length = j * 5 := by rw [ncells_len, List.length_take, Nat.min_eq_left (by omega)]
  rw [e, List.getElem?_append_right (by omega), e2, Nat.add_sub_cancel_left, List.getElem?_append_left (by show i < 5; exact hi)]
theorem RowOn.nod {w : World} {S : Bl} {a : Option Addr} {l : List MN} {j : Nat} (h : RowOn w S a (ncells l)) (hj : j < l.length) : ∃ b off, a = some ⟨b, off, none⟩ ∧ S b ∧ w.cell? ⟨b, off + j * 5, none⟩ = some (.string (l[j]).lo) ∧ w.cell? ⟨b, off + j * 5 + 1, none⟩ = some (.string (l[j]).hi) ∧ w.cell? ⟨b, off + j * 5 + 2, none⟩ = some (.int .i64 (l[j]).place) ∧ w.cell? ⟨b, off + j * 5 + 3, none⟩ = some (.slice (l[j]).ea (l[j]).en (l[j]).ec) ∧ w.cell? ⟨b, off + j * 5 + 4, none⟩ = some (.slice (l[j]).ka (l[j]).kn (l[j]).kc) := by
  have hne : ncells l ≠ [] := ncells_ne (by omega)
  rcases h with h | ⟨b, off, ha, hb, hc⟩
  · exact (hne h).elim
  · exact ⟨b, off, ha, hb, hc (j * 5 + 0) _ (ncells_at hj (by omega)), hc (j * 5 + 1) _ (ncells_at hj (by omega)), hc (j * 5 + 2) _ (ncells_at hj (by omega)), hc (j * 5 + 3) _ (ncells_at hj (by omega)), hc (j * 5 + 4) _ (ncells_at hj (by omega))⟩
def ksz (m : MN) : Nat := m.lo.size + 3
def MN.fits (m : MN) : Prop := m.lo.size ≤ 24
theorem MN.fits.out {m : MN} (h : m.fits) : m.lo.size ≤ 24 := h
theorem ksz_fits {m : MN} (h : m.fits) : ksz m ≤ 27 := by unfold ksz; have := h.out; omega
theorem infoNode : (Tryz.prog.info? 220).map (fun i => (i.zero, i.size, i.bytes)) = some (some (.agg #[.string ⟨#[]⟩, .string ⟨#[]⟩, .int .i64 0, .slice none 0 0, .slice none 0 0]), 5, 88) := by kernel_rfl
theorem infoRowN : (Tryz.prog.info? 217).map (fun i => (i.zero, i.size, i.bytes)) = some (some (.slice none 0 0), 1, 24) := by kernel_rfl
set_option maxRecDepth 100000 in
set_option maxHeartbeats 1000000 in
theorem kidSize_any (x : MN) (w : World) (hb : x.lo.size ≤ 1000000) :
    Calls Tryz.prog 173 #[.agg #[.string x.lo, .string x.hi, .int .i64 x.place, .slice x.ea x.en x.ec, .slice x.ka x.kn x.kc]] w fun e w' => e = .returned (.int .i64 (ksz x)) ∧ Below w.heap.size w w' := by
  obtain ⟨W1, hW1⟩ : ∃ W1, w.alloc (.cells #[.string x.lo, .string x.hi, .int .i64 x.place, .slice x.ea x.en x.ec, .slice x.ka x.kn x.kc] 220) = W1 := ⟨_, rfl⟩
  have b1 : Below w.heap.size w W1 := hW1 ▸ (Below.refl _ _).alloc (Nat.le_refl _) _
  obtain ⟨m0, m1, m2, m3, m4⟩ := box5 (hW1 ▸ heap_new w _ : W1.heap[w.heap.size]? = some (.cells #[.string x.lo, .string x.hi, .int .i64 x.place, .slice x.ea x.en x.ec, .slice x.ka x.kn x.kc] 220))
  have E1 : Hid (ksz x = x.lo.size + 3) := rfl
  go_enter Tryz.func173, Tryz.ntmps173
  go_wp2
  go_ret
  exact ⟨by rw [E1.out]; first | rfl | (congr 2; go_num), b1⟩
set_option maxRecDepth 100000 in
set_option maxHeartbeats 1000000 in
theorem totalN_any (ea : Option Addr) (ec : Nat) (es : List MN) (S : Bl) (w : World) (hR : RowOn w S ea (ncells es)) (hS : ∀ b, S b → b < w.heap.size) (hn : es.length ≤ 1000000) (hc : es.length ≤ ec) (hf : ∀ x ∈ es, x.fits) :
    Calls Tryz.prog 182 #[.slice ea es.length ec, .func (.func 173) #[] #[]] w fun e w' => e = .returned (.int .i64 (tot ksz es)) ∧ Below w.heap.size w w' := by
  go_enter Tryz.func182, Tryz.ntmps182
  go_wp2
  go_loopw [5, 10] (fun a b wr => ∃ j : Nat, a = .int .i64 (tot ksz (es.take j)) ∧ b = .int .i64 j ∧ j ≤ es.length ∧ Below w.heap.size w wr) (fun _ b _ => es.length - (intOf b).toNat)
  case atStart => exact ⟨0, by simp [tot], rfl, Nat.zero_le _, Below.refl _ _⟩
  case round =>
    obtain ⟨j, rfl, rfl, hj, hb⟩ := hrel
    by_cases hlt : j < es.length
    · have hlt' : j < es.length := hlt
      obtain ⟨rb, ro, hea, hrb, k0, k1, k2, k3, k4⟩ := (hR.on (On.of_below hb hS)).nod hlt'
      subst hea
      obtain ⟨X, hX⟩ : ∃ X, es[j] = X := ⟨_, rfl⟩
      simp only [hX] at k0 k1 k2 k3 k4
      have hXf : X.fits := hX ▸ hf _ (List.getElem_mem hlt)
      obtain ⟨Wa, hWa⟩ : ∃ Wa, wr.alloc (.cells #[.string X.lo, .string X.hi, .int .i64 X.place, .slice X.ea X.en X.ec, .slice X.ka X.kn X.kc] 220) = Wa := ⟨_, rfl⟩
      have xa : Wa.heap[wr.heap.size]? = some (.cells #[.string X.lo, .string X.hi, .int .i64 X.place, .slice X.ea X.en X.ec, .slice X.ka X.kn X.kc] 220) := hWa ▸ heap_new wr _
      obtain ⟨g0, g1, g2, g3, g4⟩ := box5 xa
      have ba : Below w.heap.size w Wa := hWa ▸ hb.alloc hb.size _
      have hC := kidSize_any X Wa (by have := hXf.out; omega)
      have htk : tot ksz (es.take (j + 1)) = tot ksz (es.take j) + ksz X := by rw [← hX]; exact tot_take1 ksz es j hlt
      have HTK : Hid (tot ksz (es.take (j + 1)) = tot ksz (es.take j) + ksz X) := htk
      have hle := tot_le ksz (es.take j) 27 (fun x hx => ksz_fits (hf x (List.mem_of_mem_take hx)))
      have hle2 : tot ksz (es.take j) ≤ 27000000 := by
        have : (es.take j).length ≤ 1000000 := by rw [List.length_take]; omega
        omega
      have hsx := ksz_fits hXf
      obtain ⟨n, hn'⟩ : ∃ n, tot ksz (es.take j) = n := ⟨_, rfl⟩
      obtain ⟨m, hm⟩ : ∃ m, ksz X = m := ⟨_, rfl⟩
      rw [hn'] at hle2
      rw [hm] at hsx
      simp only [hm] at hC
      have HM : Hid (tot ksz (es.take (j + 1)) = n + m) := by rw [htk, hn', hm]; exact rfl
      have HN : Hid (tot ksz (es.take j) = n) := hn'
      simp only [hn']
      clear htk HTK hX hR hle hn' hm
      go_wp2_with (go_at_call 173; refine hC.mono ?_; rintro e w2 ⟨rfl, hb2⟩)
      go_roundw
      case rel => exact ⟨j + 1, by rw [HM.out]; congr 1, by go_num, by omega, ba.trans (hb2.mono ba.size)⟩
      case measure => simp [intOf]; omega
    · obtain rfl : j = es.length := by omega
      have HT : Hid (tot ksz (es.take es.length) = tot ksz es) := by rw [List.take_length]; exact rfl
      go_wp2
      go_ret
      exact ⟨by first | rfl | (rw [← HT.out]; rfl) | (rw [HT.out]; rfl) | (simp [HT.out]; done), hb⟩
set_option maxRecDepth 100000 in
set_option maxHeartbeats 2000000 in
theorem shareN_any (ea : Option Addr) (ec : Nat) (es : List MN) (aim : Nat) (S : Bl) (w : World) (hR : RowOn w S ea (ncells es)) (hS : ∀ b, S b → b < w.heap.size) (hn : es.length ≤ 1000000) (hc : es.length ≤ ec) (hf : ∀ x ∈ es, x.fits) (ha : aim ≤ tot ksz es) (ha2 : aim ≤ 27000000) :
    Calls Tryz.prog 183 #[.slice ea es.length ec, .func (.func 173) #[] #[], .int .i64 aim] w fun e w' => e = .returned (.tuple #[.int .i64 (shN ksz aim es 0), .int .i64 (tot ksz (es.take (shN ksz aim es 0)))]) ∧ Below w.heap.size w w' := by
  go_enter Tryz.func183, Tryz.ntmps183
  go_wp2
  go_loopw [8, 9] (fun a b wr => ∃ j : Nat, b = .int .i64 (tot ksz (es.take j)) ∧ a = .int .i64 j ∧ j ≤ shN ksz aim es 0 ∧ Below w.heap.size w wr) (fun a _ _ => es.length - (intOf a).toNat)
  case atStart => exact ⟨0, by simp [tot], rfl, Nat.zero_le _, Below.refl _ _⟩
  case round =>
    obtain ⟨j, rfl, rfl, hj, hb⟩ := hrel
    have hjl : j ≤ es.length := Nat.le_trans hj (shN_le ksz aim es 0)
    by_cases hlt : tot ksz (es.take j) < aim
    · have hin := shN_lt ksz aim es j hjl ha hlt
      have hat := shN_at ksz aim es 0 j hj hin
      have hin' : j < es.length := hin
      obtain ⟨rb, ro, hea, hrb, k0, k1, k2, k3, k4⟩ := (hR.on (On.of_below hb hS)).nod hin'
      subst hea
      have htk : tot ksz (es.take (j + 1)) = tot ksz (es.take j) + ksz es[j] := tot_take1 ksz es j hin
      have hXf : (es[j]).fits := hf _ (List.getElem_mem hin)
      obtain ⟨X, hX⟩ : ∃ X, es[j] = X := ⟨_, rfl⟩
      simp only [hX] at k0 k1 k2 k3 k4 htk hXf hat
      have hC := kidSize_any X wr (by have := hXf.out; omega)
      have hsx := ksz_fits hXf
      obtain ⟨n, hn'⟩ : ∃ n, tot ksz (es.take j) = n := ⟨_, rfl⟩
      obtain ⟨m, hm⟩ : ∃ m, ksz X = m := ⟨_, rfl⟩
      simp only [hn', Nat.zero_add, hm] at hlt hat htk hC hsx ⊢
      have hlti : (n : Int) < (aim : Int) := by omega
      have HM : Hid (tot ksz (es.take (j + 1)) = n + m) := htk
      have HN : Hid (tot ksz (es.take j) = n) := hn'
      have HX : Hid (ksz X = m) := hm
      have HAT : Hid (j < shN ksz aim es 0 ↔ n < aim ∧ n + m ≤ 250) := hat
      have HR := hR
      by_cases hle : n + m ≤ 250
      · have hlei : (n : Int) + (m : Int) ≤ 250 := by omega
        clear htk hX hR hn' hm hat
        go_wp2_with (go_at_call 173; first | (refine hC.mono ?_; clear hC; rintro e w2 ⟨rfl, hb2⟩; have h2 := On.of_below (hb.trans (hb2.mono hb.size)) hS; have k4' : w2.cell? ⟨rb, ro + j * 5 + 4, none⟩ = some (.slice X.ka X.kn X.kc) := (On.of_below hb2 (fun k hk => Nat.lt_of_lt_of_le (hS k hk) hb.size)).cell _ hrb |>.trans k4; have k0' : w2.cell? ⟨rb, ro + j * 5, none⟩ = some (.string X.lo) := (On.of_below hb2 (fun k hk => Nat.lt_of_lt_of_le (hS k hk) hb.size)).cell _ hrb |>.trans k0; have k1' : w2.cell? ⟨rb, ro + j * 5 + 1, none⟩ = some (.string X.hi) := (On.of_below hb2 (fun k hk => Nat.lt_of_lt_of_le (hS k hk) hb.size)).cell _ hrb |>.trans k1; have k2' : w2.cell? ⟨rb, ro + j * 5 + 2, none⟩ = some (.int .i64 X.place) := (On.of_below hb2 (fun k hk => Nat.lt_of_lt_of_le (hS k hk) hb.size)).cell _ hrb |>.trans k2; have k3' : w2.cell? ⟨rb, ro + j * 5 + 3, none⟩ = some (.slice X.ea X.en X.ec) := (On.of_below hb2 (fun k hk => Nat.lt_of_lt_of_le (hS k hk) hb.size)).cell _ hrb |>.trans k3; have hC2 := kidSize_any X w2 (by have := hXf.out; omega); rw [HX.out] at hC2) | (refine hC2.mono ?_; rintro e w3 ⟨rfl, hb3⟩))
        go_roundw
        case rel => exact ⟨j + 1, by rw [HM.out]; congr 1, by go_num, HAT.out.2 ⟨hlt, hle⟩, (hb.trans (hb2.mono hb.size)).trans (hb3.mono (Nat.le_trans hb.size hb2.size))⟩
        case measure => simp [intOf]; omega
      · have hlei : ¬ (n : Int) + (m : Int) ≤ 250 := by omega
        have hje : Hid (shN ksz aim es 0 = j) := by
          show _ = _
          rcases Nat.lt_or_ge j (shN ksz aim es 0) with h | h
          · have := hat.1 h; omega
          · omega
        have HT : Hid (tot ksz (es.take (shN ksz aim es 0)) = n) := by show _ = _; rw [hje.out, hn']
        clear htk hX hR hn' hm hat
        go_wp2_with (go_at_call 173; refine hC.mono ?_; clear hC; rintro e w2 ⟨rfl, hb2⟩)
        go_ret2
        exact ⟨ret_ii hje.out.symm HT.out.symm, hb.trans (hb2.mono hb.size)⟩
    · have hje : Hid (shN ksz aim es 0 = j) := by
        show _ = _
        rcases Nat.lt_or_ge j (shN ksz aim es 0) with h | h
        · have h2 : j < es.length := Nat.lt_of_lt_of_le h (shN_le ksz aim es 0)
          have := (shN_at ksz aim es 0 j hj h2).1 h; omega
        · omega
      obtain ⟨n, hn'⟩ : ∃ n, tot ksz (es.take j) = n := ⟨_, rfl⟩
      have HT : Hid (tot ksz (es.take (shN ksz aim es 0)) = n) := by show _ = _; rw [hje.out, hn']
      simp only [hn'] at hlt ⊢
      have hlti : ¬ (n : Int) < (aim : Int) := by omega
      clear hn' hR
      go_wp2
      go_ret2
      exact ⟨ret_ii hje.out.symm HT.out.symm, hb⟩
def PcsN (w : World) (S : Bl) (v : Value) (ps : List (List MN)) : Prop :=
  ∃ qs : List (Pc MN), w.ownsRow 0 217 1 v qs.length (qs.map Pc.val) ∧ qs.map (·.l) = ps ∧ ∀ q ∈ qs, q.l.length ≤ q.c ∧ RowOn w S q.a (ncells q.l)
set_option maxRecDepth 100000 in
set_option maxHeartbeats 2000000 in
theorem cutN_any (ea : Option Addr) (ec : Nat) (es : List MN) (S : Bl) (w : World) (hR : RowOn w S ea (ncells es)) (hS : ∀ b, S b → b < w.heap.size) (hn : es.length ≤ 1000000) (hc : es.length ≤ ec) (hf : ∀ x ∈ es, x.fits) (h250 : ∀ x ∈ es, ksz x ≤ 250) :
    Calls Tryz.prog 172 #[.slice ea es.length ec, .func (.func 173) #[] #[]] w fun e w' => ∃ v, e = .returned v ∧ PcsN w' S v (cuts ksz es) ∧ Below w.heap.size w w' ∧ ∀ k, v.ownBlock = some k → w.heap.size ≤ k := by
  have hT := totalN_any ea ec es S w hR hS hn hc hf
  have hle : ∀ r : List MN, (∀ x ∈ r, x ∈ es) → r.length ≤ es.length → tot ksz r ≤ 27000000 := fun r hr hl => by
    have := tot_le ksz r 27 (fun x hx => ksz_fits (hf x (hr x hx)))
    omega
  go_enter Tryz.func172, Tryz.ntmps172
  go_wp2_with (go_at_call 182; refine hT.mono ?_; rintro e w1 ⟨rfl, hb1⟩)
  go_loopw [0, 5, 6] (fun a p t wr => ∃ (r : List MN) (ra : Option Addr) (rc : Nat) (qs : List (Pc MN)), a = .slice ra r.length rc ∧ r.length ≤ rc ∧ t = .int .i64 (tot ksz r) ∧ RowOn w S ra (ncells r) ∧ (∀ x ∈ r, x ∈ es) ∧ r.length ≤ es.length ∧ qs.length + r.length ≤ es.length ∧ cuts ksz es = qs.map (·.l) ++ cuts ksz r ∧ wr.ownsRow 0 217 1 p qs.length (qs.map Pc.val) ∧ (∀ q ∈ qs, q.l.length ≤ q.c ∧ RowOn w S q.a (ncells q.l)) ∧ Below w.heap.size w wr ∧ ∀ k, p.ownBlock = some k → w.heap.size ≤ k) (fun a _ _ _ => match a with | .slice _ n _ => n | _ => 0)
  case atStart => exact ⟨es, ea, ec, [], rfl, hc, rfl, hR, fun _ h => h, Nat.le_refl _, by simp, by simp, World.ownsRow_nil _ _ _ _, by simp, hb1, by simp [Value.ownBlock]⟩
  case round =>
    obtain ⟨r, ra, rc, qs, rfl, hrc, rfl, hRr, hmem, hrl, hql, hcut, hown, hqs, hb, hlies⟩ := hrel
    have hRw := hRr.on (On.of_below hb hS)
    have hSw : ∀ b, S b → b < wr.heap.size := fun b h => Nat.lt_of_lt_of_le (hS b h) hb.size
    have htr := hle r hmem hrl
    have HCUT : Hid (cuts ksz es = qs.map (·.l) ++ cuts ksz r) := hcut
    clear hcut
    by_cases hgt : 250 < tot ksz r
    · have hr0 : 0 < r.length := by
        cases r with
        | nil => simp [tot] at hgt
        | cons x r => simp
      obtain ⟨rb, ro, rfl, hrb⟩ := hRr.addr (ncells_ne hr0)
      have hrmem : ∀ x ∈ r, ksz x ≤ 250 := fun x hx => h250 x (hmem x hx)
      have hSh := shareN_any (some ⟨rb, ro, none⟩) rc r (tot ksz r / 2) S wr hRw hSw (by omega) hrc (fun x hx => hf x (hmem x hx)) (Nat.div_le_self _ _) (by omega)
      have hpos := shN_pos ksz (tot ksz r / 2) r (by omega) (Nat.div_le_self _ _) hrmem
      have hnle := shN_le ksz (tot ksz r / 2) r 0
      have hst := cuts_step ksz r hrmem hgt
      have hsp := tot_split ksz r (shN ksz (tot ksz r / 2) r 0)
      obtain ⟨n, hn'⟩ : ∃ n, shN ksz (tot ksz r / 2) r 0 = n := ⟨_, rfl⟩
      rw [hn'] at hSh hpos hnle hst hsp
      obtain ⟨f, hf'⟩ : ∃ f, tot ksz (r.take n) = f := ⟨_, rfl⟩
      rw [hf'] at hSh hsp
      obtain ⟨t, ht⟩ : ∃ t, tot ksz r = t := ⟨_, rfl⟩
      rw [ht] at hSh hgt htr hsp
      simp only [ht]
      have hgti : (t : Int) > 250 := by omega
      have hSz : ∀ z : Int, z = ((t / 2 : Nat) : Int) → Calls Tryz.prog 183 #[.slice (some ⟨rb, ro, none⟩) r.length rc, .func (.func 173) #[] #[], .int .i64 z] wr fun e w' => e = .returned (.tuple #[.int .i64 n, .int .i64 f]) ∧ Below wr.heap.size wr w' := fun z hz => hz ▸ hSh
      have HST : Hid (cuts ksz r = r.take n :: cuts ksz (r.drop n)) := hst
      have HF : Hid (tot ksz (r.drop n) = t - f) := by show _ = _; omega
      have hfle : f ≤ t := by omega
      have hnli : (n : Int) ≤ (rc : Int) := by omega
      have hnli2 : (n : Int) ≤ (r.length : Int) := by omega
      have hdl : (r.drop n).length = r.length - n := List.length_drop ..
      have HDL : Hid ((r.drop n).length = r.length - n) := hdl
      have HTL : Hid ((r.take n).length = n) := by show _ = _; rw [List.length_take]; omega
      clear hst hsp hn' hf' ht hT hle hdl hSh
      obtain ⟨pa, pcp, rfl⟩ := own_shape hown
      have hQ : qs.length + 1 ≤ 1000001 := by omega
      go_wp2_with (first
        | (go_at_call 183; refine (hSz _ (by first | exact quo2 t (by omega) | omega | rfl)).mono ?_; clear hSz; rintro e w2 ⟨rfl, hb2⟩; have f2 : Fr Bl.none wr w2 := Fr.of_below hb2; have o2 := own_on hown (f2.on (Z := fun k => Value.ownBlock (.slice pa qs.length pcp) = some k) (fun k hk => ⟨own_lt hown hk, fun h => h⟩)) (fun k hk => hk))
        | (at_builtin; refine wp_app1 w2 rfl (.tmp 22) (.tmp 26) 246 217 _ 1 24 rfl Tryz.underlying246 infoRowN rfl (by decide) (.slice pa qs.length pcp) qs.length (qs.map Pc.val) rfl o2 [.slice (some ⟨rb, ro, none⟩) n rc] rfl rfl (by simp [Value.oneCell']) (by omega) (by omega) ?_; intro v3 w3 A3; obtain ⟨g3, k3, rfl⟩ := A3.shape (by decide)))
      have b3 : Below w.heap.size w w3 := (hb.trans (hb2.mono hb.size)).trans (A3.fr.below (Nat.le_trans hb.size hb2.size) hlies)
      have hnn : 0 < n := hpos
      go_roundw
      case rel =>
        refine ⟨r.drop n, (if rc = n then some ⟨rb, ro, none⟩ else some ⟨rb, ro + n * 5, none⟩), rc - n, qs ++ [⟨some ⟨rb, ro, none⟩, rc, r.take n⟩], ?_, ?_, ?_, ?_, ?_, ?_, ?_, ?_, ?_, ?_, b3, ?_⟩
        · rw [HDL.out]
        · rw [HDL.out]; omega
        · rw [HF.out]; congr 1; omega
        · by_cases hrn : rc = n
          · exact .inl (by rw [List.drop_eq_nil_of_le (by omega)]; rfl)
          · rw [if_neg hrn]
            rw [ncells_flat] at hRr ⊢
            exact hRr.dropZ n (ncells_z r) hnle
        · exact fun x hx => hmem x (List.mem_of_mem_drop hx)
        · rw [HDL.out]; omega
        · rw [HDL.out, List.length_append, List.length_singleton]; omega
        · rw [HCUT.out, HST.out]; simp
        · have e1 : Pc.val (⟨some ⟨rb, ro, none⟩, rc, r.take n⟩ : Pc MN) = .slice (some ⟨rb, ro, none⟩) n rc := by unfold Pc.val; simp only [HTL.out]
          rw [List.map_append, List.length_append, List.length_singleton, List.map_cons, List.map_nil, e1]
          exact A3.row
        · intro q hq
          rcases List.mem_append.1 hq with hq | hq
          · exact hqs q hq
          · obtain rfl := List.mem_singleton.1 hq
            refine ⟨by show (r.take n).length ≤ rc; rw [HTL.out]; omega, ?_⟩
            show RowOn w S (some ⟨rb, ro, none⟩) (ncells (r.take n))
            rw [ncells_flat] at hRr ⊢
            exact hRr.takeZ (z := 5) n
        · intro k hk
          rcases A3.lies k hk with h | h
          · exact hlies k h
          · exact Nat.le_trans hb.size (Nat.le_trans hb2.size h)
      case measure => simp; omega
    · have hla := cuts_last ksz r (by omega)
      obtain ⟨pa, pcp, rfl⟩ := own_shape hown
      by_cases hr0 : 0 < r.length
      · have HLA : Hid (cuts ksz r = [r]) := by show _ = _; rw [hla, if_neg (by omega)]
        have hr0i : (0 : Int) < (r.length : Int) := by omega
        obtain ⟨t, ht⟩ : ∃ t, tot ksz r = t := ⟨_, rfl⟩
        simp only [ht] at hgt ⊢
        have hgti : ¬ (t : Int) > 250 := by omega
        have hQ : qs.length + 1 ≤ 1000001 := by omega
        clear hla ht hT hle
        go_wp2_with (at_builtin; refine wp_app1 wr rfl (.tmp 37) (.tmp 39) 246 217 _ 1 24 rfl Tryz.underlying246 infoRowN rfl (by decide) (.slice pa qs.length pcp) qs.length (qs.map Pc.val) rfl hown [.slice ra r.length rc] rfl rfl (by simp [Value.oneCell']) (by omega) (by omega) ?_; intro v3 w3 A3; obtain ⟨g3, k3, rfl⟩ := A3.shape (by decide))
        go_ret
        have b3 : Below w.heap.size w w3 := hb.trans (A3.fr.below hb.size hlies)
        refine ⟨_, rfl, ⟨qs ++ [⟨ra, rc, r⟩], ?_, ?_, ?_⟩, b3, ?_⟩
        · rw [List.map_append, List.length_append, List.length_singleton, List.map_cons, List.map_nil]
          exact A3.row
        · rw [HCUT.out, HLA.out]; simp
        · intro q hq
          rcases List.mem_append.1 hq with hq | hq
          · exact ⟨(hqs q hq).1, (hqs q hq).2.on (On.of_below b3 hS)⟩
          · obtain rfl := List.mem_singleton.1 hq
            exact ⟨hrc, hRr.on (On.of_below b3 hS)⟩
        · intro k hk
          rcases A3.lies k hk with h | h
          · exact hlies k h
          · exact Nat.le_trans hb.size h
      · have hr00 : r.length = 0 := by omega
        have HLA : Hid (cuts ksz r = []) := by show _ = _; rw [hla, if_pos hr00]
        obtain rfl := List.eq_nil_of_length_eq_zero hr00
        clear hla hT hle
        go_wp2
        go_ret
        refine ⟨_, rfl, ⟨qs, hown, ?_, ?_⟩, hb, hlies⟩
        · rw [HCUT.out, HLA.out]; simp
        · exact fun q hq => ⟨(hqs q hq).1, (hqs q hq).2.on (On.of_below hb hS)⟩
end Go.Proofs.YtngpplmndpmgiaaGreat.Tree
namespace Go.Proofs.YtngpplmndpmgiaaGreat.Tree
open Go.RowKit Go.Proofs.YtngpplmndpmgiaaGreat.Pages
set_option linter.unusedSimpArgs false
set_option linter.unusedVariables false
def firstKey (es : List En) : ByteArray := match es with | [] => ⟨#[]⟩ | x :: _ => x.e.key
def leafMN (q : Pc En) : MN := ⟨firstKey q.l, ⟨#[]⟩, 0, q.a, q.l.length, q.c, none, 0, 0⟩
theorem firstKey_at {es : List En} (h : 0 < es.length) : firstKey es = es[0].e.key := by
  cases es with
  | nil => simp at h
  | cons x l => rfl
theorem own_get {w : World} {B : Nat} {e : TypeId} {z : Nat} {a : Option Addr} {c : Nat} {n : Nat} {xs : List Value} (h : w.ownsRow B e z (.slice a n c) n xs) {j : Nat} {u : Value} (hu : xs[j]? = some u) : ∃ g, a = some ⟨g, 0, none⟩ ∧ g < w.heap.size ∧ n ≤ c ∧ w.cell? ⟨g, j, none⟩ = some u := by
  obtain ⟨g, h1, h2, h3, h4⟩ := own_at h hu
  exact ⟨g, h1, h2, h3, h4⟩
set_option maxRecDepth 100000 in
set_option maxHeartbeats 2000000 in
theorem newLeaves_any (ea : Option Addr) (ec : Nat) (es : List En) (S : Bl) (w : World) (hR : RowOn w S ea (ecells es)) (hS : ∀ b, S b → b < w.heap.size) (hn : es.length ≤ 1000000) (hc : es.length ≤ ec) (hf : ∀ x ∈ es, x.fits) (h250 : ∀ x ∈ es, esz x ≤ 250) :
    Calls Tryz.prog 156 #[.slice ea es.length ec] w fun e w' => ∃ v, ∃ qs : List (Pc En), e = .returned v ∧ w'.ownsRow 0 220 5 v qs.length (ncells (qs.map leafMN)) ∧ qs.map (·.l) = cuts esz es ∧ (∀ q ∈ qs, q.l.length ≤ q.c ∧ RowOn w' S q.a (ecells q.l)) ∧ Below w.heap.size w w' ∧ ∀ k, v.ownBlock = some k → w.heap.size ≤ k := by
  have hC := cutE_any ea ec es S w hR hS hn hc hf h250
  have hne := cuts_ne esz es h250
  go_enter Tryz.func156, Tryz.ntmps156
  go_wp2_with (go_at_call 167; refine hC.mono ?_; clear hC; rintro e w1 ⟨v, rfl, ⟨qs, hown, hl, hq⟩, hb1, hlies⟩; obtain ⟨pa, pcp, rfl⟩ := own_shape hown)
  have hlen : qs.length ≤ es.length + 1 := by
    have h1 : qs.length = (cuts esz es).length := by rw [← hl]; simp
    have h2 := cuts_flat esz es h250
    have h3 : (cuts esz es).length ≤ (cuts esz es).flatten.length := by
      rw [List.length_flatten]
      generalize cuts esz es = ps at hne
      clear h1 h2 hl
      induction ps with
      | nil => simp
      | cons p ps ih =>
        have := ih (fun p hp => hne p (by simp [hp]))
        have hp : 0 < p.length := List.length_pos_iff.2 (hne p (by simp))
        simp; omega
    rw [h2] at h3
    omega
  have HL : Hid (qs.map (·.l) = cuts esz es) := hl
  have hqn : ∀ q ∈ qs, 0 < q.l.length := fun q hq => List.length_pos_iff.2 (hne q.l (by rw [← hl]; exact List.mem_map_of_mem (f := fun q : Pc En => q.l) hq))
  clear hl hne
  go_loopw [3, 9] (fun a b wr => ∃ j : Nat, b = .int .i64 j ∧ j ≤ qs.length ∧ wr.ownsRow 0 220 5 a j (ncells ((qs.take j).map leafMN)) ∧ Below w1.heap.size w1 wr ∧ ∀ k, a.ownBlock = some k → w1.heap.size ≤ k) (fun _ b _ => qs.length - (intOf b).toNat)
  case atStart => exact ⟨0, rfl, Nat.zero_le _, World.ownsRow_nil _ _ _ _, Below.refl _ _, by simp [Value.ownBlock]⟩
  case round =>
    obtain ⟨j, rfl, hj, ho, hb, hk⟩ := hrel
    obtain ⟨aa, ac, rfl⟩ := own_shape ho
    by_cases hlt : j < qs.length
    · obtain ⟨Q, hQ⟩ : ∃ Q, qs[j] = Q := ⟨_, rfl⟩
      have hQm : Q ∈ qs := hQ ▸ List.getElem_mem hlt
      have hu : (qs.map Pc.val)[j]? = some (.slice Q.a Q.l.length Q.c) := by rw [List.getElem?_map, List.getElem?_eq_getElem hlt, hQ]; rfl
      obtain ⟨g, hg, hgl, hnc, hcell⟩ := own_get hown hu
      subst hg
      have oW := On.of_below (Y := fun k => k < w1.heap.size) hb (fun k h => h)
      have hcw : wr.cell? ⟨g, j, none⟩ = some (.slice Q.a Q.l.length Q.c) := (oW.cell _ hgl).trans hcell
      have hS1 : ∀ b, S b → b < w1.heap.size := fun b h => Nat.lt_of_lt_of_le (hS b h) hb1.size
      have hRq := ((hq Q hQm).2.on (On.of_below hb hS1))
      have hq0 := hqn Q hQm
      have hq0' : 0 < (Q.l.map (·.e)).length := by simpa using hq0
      obtain ⟨rb, ro, hqa, hrb, k0, _, _, _⟩ := hRq.ent hq0'
      rw [List.getElem_map, ← firstKey_at hq0] at k0
      simp only [Nat.zero_mul, Nat.add_zero] at k0
      obtain ⟨Qa, Qc, Ql⟩ := Q
      simp only at hqa hq0 hq0' hcw k0
      subst hqa
      obtain ⟨K, hK⟩ : ∃ K, firstKey Ql = K := ⟨_, rfl⟩
      rw [hK] at k0
      have HTK : Hid (ncells ((qs.take (j + 1)).map leafMN) = ncells ((qs.take j).map leafMN) ++ [.string K, .string ⟨#[]⟩, .int .i64 0, .slice (some ⟨rb, ro, none⟩) Ql.length Qc, .slice none 0 0]) := by
        show _ = _
        rw [List.take_succ_eq_append_getElem hlt, hQ, List.map_append, List.map_cons, List.map_nil, ncells_snoc]
        simp only [leafMN, MN.cells, hK]; rfl
      clear hQ hQm hu hcell hown hq hRq hK
      go_wp2_with (at_builtin; refine wp_app1 wr rfl (.tmp 13) (.tmp 21) 217 220 _ 5 88 rfl Tryz.underlying217 infoNode rfl (by decide) (.slice aa j ac) j (ncells ((qs.take j).map leafMN)) rfl ho [.string K, .string ⟨#[]⟩, .int .i64 0, .slice (some ⟨rb, ro, none⟩) Ql.length Qc, .slice none 0 0] rfl rfl (by simp [Value.oneCell']) (by omega) (by omega) ?_; intro v3 w3 A3; obtain ⟨g3, k3, rfl⟩ := A3.shape (by decide))
      go_roundw
      case rel =>
        refine ⟨j + 1, by go_num, by omega, by rw [HTK.out]; exact A3.row, hb.trans (A3.fr.below hb.size hk), ?_⟩
        intro k h
        rcases A3.lies k h with h | h
        · exact hk k h
        · exact Nat.le_trans hb.size h
      case measure => simp [intOf]; omega
    · obtain rfl : j = qs.length := by omega
      go_wp2
      go_ret
      refine ⟨_, qs, rfl, by rw [List.take_length] at ho; exact ho, HL.out, fun q h => ⟨(hq q h).1, (hq q h).2.on (On.of_below hb (fun b h => Nat.lt_of_lt_of_le (hS b h) hb1.size))⟩, hb1.trans (hb.mono hb1.size), fun k h => Nat.le_trans hb1.size (hk k h)⟩
def firstLo (ms : List MN) : ByteArray := match ms with | [] => ⟨#[]⟩ | x :: _ => x.lo
def branMN (q : Pc MN) : MN := ⟨firstLo q.l, ⟨#[]⟩, 0, none, 0, 0, q.a, q.l.length, q.c⟩
theorem firstLo_at {es : List MN} (h : 0 < es.length) : firstLo es = es[0].lo := by
  cases es with
  | nil => simp at h
  | cons x l => rfl
set_option maxRecDepth 100000 in
set_option maxHeartbeats 2000000 in
theorem newBranches_any (ea : Option Addr) (ec : Nat) (es : List MN) (S : Bl) (w : World) (hR : RowOn w S ea (ncells es)) (hS : ∀ b, S b → b < w.heap.size) (hn : es.length ≤ 1000000) (hc : es.length ≤ ec) (hf : ∀ x ∈ es, x.fits) (h250 : ∀ x ∈ es, ksz x ≤ 250) :
    Calls Tryz.prog 159 #[.slice ea es.length ec] w fun e w' => ∃ v, ∃ qs : List (Pc MN), e = .returned v ∧ w'.ownsRow 0 220 5 v qs.length (ncells (qs.map branMN)) ∧ qs.map (·.l) = cuts ksz es ∧ (∀ q ∈ qs, q.l.length ≤ q.c ∧ RowOn w' S q.a (ncells q.l)) ∧ Below w.heap.size w w' ∧ ∀ k, v.ownBlock = some k → w.heap.size ≤ k := by
  have hC := cutN_any ea ec es S w hR hS hn hc hf h250
  have hne := cuts_ne ksz es h250
  go_enter Tryz.func159, Tryz.ntmps159
  go_wp2_with (go_at_call 172; refine hC.mono ?_; clear hC; rintro e w1 ⟨v, rfl, ⟨qs, hown, hl, hq⟩, hb1, hlies⟩; obtain ⟨pa, pcp, rfl⟩ := own_shape hown)
  have hlen : qs.length ≤ es.length + 1 := by
    have h1 : qs.length = (cuts ksz es).length := by rw [← hl]; simp
    have h2 := cuts_flat ksz es h250
    have h3 : (cuts ksz es).length ≤ (cuts ksz es).flatten.length := by
      rw [List.length_flatten]
      generalize cuts ksz es = ps at hne
      clear h1 h2 hl
      induction ps with
      | nil => simp
      | cons p ps ih =>
        have := ih (fun p hp => hne p (by simp [hp]))
        have hp : 0 < p.length := List.length_pos_iff.2 (hne p (by simp))
        simp; omega
    rw [h2] at h3
    omega
  have HL : Hid (qs.map (·.l) = cuts ksz es) := hl
  have hqn : ∀ q ∈ qs, 0 < q.l.length := fun q hq => List.length_pos_iff.2 (hne q.l (by rw [← hl]; exact List.mem_map_of_mem (f := fun q : Pc MN => q.l) hq))
  clear hl hne
  go_loopw [3, 9] (fun a b wr => ∃ j : Nat, b = .int .i64 j ∧ j ≤ qs.length ∧ wr.ownsRow 0 220 5 a j (ncells ((qs.take j).map branMN)) ∧ Below w1.heap.size w1 wr ∧ ∀ k, a.ownBlock = some k → w1.heap.size ≤ k) (fun _ b _ => qs.length - (intOf b).toNat)
  case atStart => exact ⟨0, rfl, Nat.zero_le _, World.ownsRow_nil _ _ _ _, Below.refl _ _, by simp [Value.ownBlock]⟩
  case round =>
    obtain ⟨j, rfl, hj, ho, hb, hk⟩ := hrel
    obtain ⟨aa, ac, rfl⟩ := own_shape ho
    by_cases hlt : j < qs.length
    · obtain ⟨Q, hQ⟩ : ∃ Q, qs[j] = Q := ⟨_, rfl⟩
      have hQm : Q ∈ qs := hQ ▸ List.getElem_mem hlt
      have hu : (qs.map Pc.val)[j]? = some (.slice Q.a Q.l.length Q.c) := by rw [List.getElem?_map, List.getElem?_eq_getElem hlt, hQ]; rfl
      obtain ⟨g, hg, hgl, hnc, hcell⟩ := own_get hown hu
      subst hg
      have oW := On.of_below (Y := fun k => k < w1.heap.size) hb (fun k h => h)
      have hcw : wr.cell? ⟨g, j, none⟩ = some (.slice Q.a Q.l.length Q.c) := (oW.cell _ hgl).trans hcell
      have hS1 : ∀ b, S b → b < w1.heap.size := fun b h => Nat.lt_of_lt_of_le (hS b h) hb1.size
      have hRq := ((hq Q hQm).2.on (On.of_below hb hS1))
      have hq0 := hqn Q hQm
      have hq0' : 0 < Q.l.length := hq0
      obtain ⟨rb, ro, hqa, hrb, k0, k1, k2, k3, k4⟩ := hRq.nod hq0'
      rw [← firstLo_at hq0] at k0
      clear k1 k2 k3 k4
      simp only [Nat.zero_mul, Nat.add_zero] at k0
      obtain ⟨Qa, Qc, Ql⟩ := Q
      simp only at hqa hq0 hq0' hcw k0
      subst hqa
      obtain ⟨K, hK⟩ : ∃ K, firstLo Ql = K := ⟨_, rfl⟩
      rw [hK] at k0
      have HTK : Hid (ncells ((qs.take (j + 1)).map branMN) = ncells ((qs.take j).map branMN) ++ [.string K, .string ⟨#[]⟩, .int .i64 0, .slice none 0 0, .slice (some ⟨rb, ro, none⟩) Ql.length Qc]) := by
        show _ = _
        rw [List.take_succ_eq_append_getElem hlt, hQ, List.map_append, List.map_cons, List.map_nil, ncells_snoc]
        simp only [branMN, MN.cells, hK]; rfl
      clear hQ hQm hu hcell hown hq hRq hK
      go_wp2_with (at_builtin; refine wp_app1 wr rfl (.tmp 13) (.tmp 22) 217 220 _ 5 88 rfl Tryz.underlying217 infoNode rfl (by decide) (.slice aa j ac) j (ncells ((qs.take j).map branMN)) rfl ho [.string K, .string ⟨#[]⟩, .int .i64 0, .slice none 0 0, .slice (some ⟨rb, ro, none⟩) Ql.length Qc] rfl rfl (by simp [Value.oneCell']) (by omega) (by omega) ?_; intro v3 w3 A3; obtain ⟨g3, k3, rfl⟩ := A3.shape (by decide))
      go_roundw
      case rel =>
        refine ⟨j + 1, by go_num, by omega, by rw [HTK.out]; exact A3.row, hb.trans (A3.fr.below hb.size hk), ?_⟩
        intro k h
        rcases A3.lies k h with h | h
        · exact hk k h
        · exact Nat.le_trans hb.size h
      case measure => simp [intOf]; omega
    · obtain rfl : j = qs.length := by omega
      go_wp2
      go_ret
      refine ⟨_, qs, rfl, by rw [List.take_length] at ho; exact ho, HL.out, fun q h => ⟨(hq q h).1, (hq q h).2.on (On.of_below hb (fun b h => Nat.lt_of_lt_of_le (hS b h) hb1.size))⟩, hb1.trans (hb.mono hb1.size), fun k h => Nat.le_trans hb1.size (hk k h)⟩
end Go.Proofs.YtngpplmndpmgiaaGreat.Tree
namespace Go.Proofs.YtngpplmndpmgiaaGreat.Tree
open Go.RowKit Go.Proofs.YtngpplmndpmgiaaGreat.Pages
set_option linter.unusedSimpArgs false
set_option linter.unusedVariables false
set_option maxHeartbeats 1000000 in
theorem run_grow {P : Program} (w : World) (T I ty E : TypeId) (zero : Value) (z bytes : Nat) (hT : P.underlying T = some (.slice E)) (hI : P.underlying I = some (.int .i64)) (hi : (P.info? E).map (fun i => (i.zero, i.size, i.bytes)) = some (some zero, z, bytes)) (hzs : zero.cells.size = z) (hsz : 0 < z)
    (m : Nat) (hm : 0 < m) (hl : m ≤ 140737488355328) (hb : m * bytes ≤ 140737488355328) :
    ∃ c w', (Builtin.append_ #[T, I] ty #[.slice none 0 0, .int .i64 m]).run P w = .ok (.slice (some ⟨w.heap.size, 0, none⟩) m c) w' ∧ m ≤ c ∧ w'.ownsRow 0 E z (.slice (some ⟨w.heap.size, 0, none⟩) 0 c) 0 [] ∧ Fr Bl.none w w' := by
  obtain ⟨i0, hi0, hz0, hz1, hz2⟩ := info_parts hi
  have hw : IntKind.i64.wrap (m : Int) = (m : Int) := by simp [IntKind.wrap, IntKind.bits, IntKind.signed]; omega
  have hm0 : ¬ ((m : Int) < 0) := by omega
  have hmb : ¬ ((281474976710656 : Int) < (m : Int) * (bytes : Int)) := by
    have : ((m * bytes : Nat) : Int) = (m : Int) * (bytes : Int) := by simp
    omega
  have hai : ∀ u : World, Sem.run P (asIntOf (Value.int IntKind.i64 (m : Int))) u = .ok (.i64, (m : Int)) u := fun _ => rfl
  have hmz : ¬ m = 0 := by omega
  have hmz2 : ¬ (m * z = 0) := by rw [Nat.mul_eq_zero]; omega
  have hz' : ¬ z = 0 := by omega
  have hmp : ¬ ((m : Int) ≤ 0) := by omega
  have hmx : max (m : Int) 0 = (m : Int) := by omega
  have h63' : ¬ (9223372036854775807 < (m : Int)) := by omega
  have h48 := growslice_fits (need := m) (old := 0) (bytes := bytes) hm hb
  have h48' : ¬ (281474976710656 < Builtin.nextslicecap m 0 * bytes) := by omega
  have hge := grownCap_ge w m 0 E
  have hcm' : grownCap w m 0 E ≤ maxLen := grownCap_le_maxLen w m 0 E (by unfold maxLen; omega)
  refine ⟨grownCap w m 0 E, w.drew.alloc (.cells (Builtin.zeroCells zero.cells m ++ Builtin.zeroCells zero.cells (grownCap w m 0 E - m)) E), ?_, hge, ?_, ?_⟩
  · simp [Builtin.append_, run_underlying hT, run_underlying hI, sizeOf, typeInfo, hi0, hz0, hz1, hz2, asInt, hai, hw, hm0, hmb, zeroValue, hmz, hmz2, hz', hmp, hmx, h63', h48', Question.forced, newRow, grownCap, Builtin.firstCells]
  · refine ⟨by simp, .inr ⟨w.heap.size, _, _, rfl, Nat.zero_le _, heap_alloc_new w.drew _, Nat.zero_le _, hcm', ?_, by simp⟩⟩
    simp [Builtin.zeroCells, hzs]
    rw [← Nat.add_mul]
    congr 1; omega
  · exact (Fr.refl _ w).drew.alloc _
theorem wp_grow {P : Program} {ops : Array Oper} {rest : List Oper} {o : Oper} {a : Act} {Q : Exit → Act → World → Prop} (w : World) (hgd : o.guard = none) (sl x : Operand) (T I E : TypeId) (zero : Value) (z bytes : Nat) (ho : o.op = .call { callee := .builtin .append, args := #[sl, x], argTypes := #[T, I] }) (hT : P.underlying T = some (.slice E)) (hI : P.underlying I = some (.int .i64)) (hi : (P.info? E).map (fun i => (i.zero, i.size, i.bytes)) = some (some zero, z, bytes)) (hzs : zero.cells.size = z) (hsz : 0 < z)
    (m : Nat) (hs : a.eval sl = .slice none 0 0) (hx : a.eval x = .int .i64 m) (hm : 0 < m) (hl : m ≤ 140737488355328) (hb : m * bytes ≤ 140737488355328)
    (h : ∀ c w', m ≤ c → w'.ownsRow 0 E z (.slice (some ⟨w.heap.size, 0, none⟩) 0 c) 0 [] → Fr Bl.none w w' → wpList P ops Q rest (a.put o.dst (.slice (some ⟨w.heap.size, 0, none⟩) m c)) w') :
    wpList P ops Q (o :: rest) a w := by
  refine wpList_plain hgd fun K hK => ?_
  obtain ⟨c, w', hr, h1, h2, h3⟩ := run_grow (P := P) w T I o.type E zero z bytes hT hI hi hzs hsz m hm hl hb
  unfold Oper.wp execOp
  simp only [ho, resolve, invoke, builtin, Sem.run_bind, Sem.run_pure, Result.andThen_ok, List.map_toArray, List.map_cons, List.map_nil, hs, hx, hr]
  exact hK _ _ (h c w' h1 h2 h3)
set_option maxRecDepth 100000 in
set_option maxHeartbeats 1000000 in
theorem growE_any (m : Nat) (w : World) (hn : m ≤ 4000000) :
    Calls Tryz.prog 187 #[.slice none 0 0, .int .i64 m] w fun e w' => ∃ v, e = .returned v ∧ w'.ownsRow 0 102 4 v 0 [] ∧ Below w.heap.size w w' ∧ ∀ k, v.ownBlock = some k → w.heap.size ≤ k := by
  go_enter Tryz.func187, Tryz.ntmps187
  by_cases hm : 0 < m
  · have hmi : (0 : Int) < (m : Int) := by omega
    go_wp2_with (at_builtin; refine wp_grow w rfl (.tmp 20) (.tmp 21) 70 3 102 _ 4 48 rfl Tryz.underlying70 Tryz.underlying3 infoEn rfl (by decide) m rfl rfl hm (by omega) (by omega) ?_; intro c w2 hc ho2 hf2)
    go_ret
    exact ⟨_, rfl, ho2, hf2.below0, by simp [Value.ownBlock]⟩
  · obtain rfl : m = 0 := by omega
    go_wp2
    go_ret
    exact ⟨_, rfl, World.ownsRow_nil _ _ _ _, Below.refl _ _, by simp [Value.ownBlock]⟩
theorem run_app0 {P : Program} (w : World) (T ty E : TypeId) (zero : Value) (z bytes : Nat) (hT : P.underlying T = some (.slice E)) (hi : (P.info? E).map (fun i => (i.zero, i.size, i.bytes)) = some (some zero, z, bytes))
    (v : Value) (n : Nat) (xs : List Value) (hv : w.ownsRow 0 E z v n xs) (qa : Option Addr) (qc : Nat) :
    (Builtin.append_ #[T, T] ty #[v, .slice qa 0 qc]).run P w = .ok v w := by
  obtain ⟨i0, hi0, hz0, hz1, hz2⟩ := info_parts hi
  obtain ⟨_, h2⟩ := hv
  rcases h2 with ⟨rfl, rfl⟩ | ⟨g, c, cur, rfl, _, hg, hnc, _⟩
  · cases qa <;> simp [Builtin.append_, run_underlying hT, sizeOf, typeInfo, hi0, hz0, hz1, hz2, Builtin.lenOf, Builtin.firstCells, loadCells, loadCellsFrom]
  · cases qa <;> simp [Builtin.append_, run_underlying hT, sizeOf, typeInfo, hi0, hz0, hz1, hz2, Builtin.lenOf, Builtin.firstCells, loadCells, loadCellsFrom, hnc, storeCells]
theorem wp_app0 {P : Program} {ops : Array Oper} {rest : List Oper} {o : Oper} {a : Act} {Q : Exit → Act → World → Prop} (w : World) (hgd : o.guard = none) (sl x : Operand) (T E : TypeId) (zero : Value) (z bytes : Nat) (ho : o.op = .call { callee := .builtin .append, args := #[sl, x], argTypes := #[T, T] }) (hT : P.underlying T = some (.slice E)) (hi : (P.info? E).map (fun i => (i.zero, i.size, i.bytes)) = some (some zero, z, bytes))
    (v : Value) (n : Nat) (xs : List Value) (hs : a.eval sl = v) (hv : w.ownsRow 0 E z v n xs) (qa : Option Addr) (qc : Nat) (hx : a.eval x = .slice qa 0 qc)
    (h : wpList P ops Q rest (a.put o.dst v) w) :
    wpList P ops Q (o :: rest) a w := by
  refine wpList_plain hgd fun K hK => ?_
  have hr := run_app0 (P := P) w T o.type E zero z bytes hT hi v n xs hv qa qc
  unfold Oper.wp execOp
  simp only [ho, resolve, invoke, builtin, Sem.run_bind, Sem.run_pure, Result.andThen_ok, List.map_toArray, List.map_cons, List.map_nil, hs, hx, hr]
  exact hK _ _ h
theorem RowOn.val {w : World} {S : Bl} {a : Option Addr} {vs : List Value} {j : Nat} {u : Value} (h : RowOn w S a vs) (hu : vs[j]? = some u) : ∃ b off, a = some ⟨b, off, none⟩ ∧ S b ∧ w.cell? ⟨b, off + j, none⟩ = some u := by
  rcases h with h | ⟨b, off, ha, hb, hc⟩
  · subst h; simp at hu
  · exact ⟨b, off, ha, hb, hc j u hu⟩
def lens {α : Type} (qs : List (Pc α)) : Nat := (qs.map (·.l.length)).sum
theorem lens_take1 {α : Type} (qs : List (Pc α)) (j : Nat) (h : j < qs.length) : lens (qs.take (j + 1)) = lens (qs.take j) + qs[j].l.length := by
  unfold lens; rw [List.take_succ_eq_append_getElem h, List.map_append, List.sum_append]; simp only [List.map_cons, List.map_nil, List.sum_cons, List.sum_nil, Nat.add_zero]
theorem lens_le {α : Type} (qs : List (Pc α)) (j : Nat) : lens (qs.take j) ≤ lens qs := by
  have : qs.map (·.l.length) = (qs.take j).map (·.l.length) ++ (qs.drop j).map (·.l.length) := by rw [← List.map_append, List.take_append_drop]
  unfold lens; rw [this, List.sum_append]; exact Nat.le_add_right _ _
theorem ecells_append (a b : List En) : ecells (a ++ b) = ecells a ++ ecells b := by simp [ecells]
theorem ecells_len (a : List En) : (ecells a).length = a.length * 4 := by rw [ecells_flat]; exact flat_len a (ecells_z a)
theorem ecells_one (a : List En) : ∀ u ∈ ecells a, u.oneCell' = true := by
  intro u hu
  simp [ecells, Ent.cells] at hu
  obtain ⟨x, _, h | h | h | h⟩ := hu <;> subst h <;> rfl
theorem ncells_one (a : List MN) : ∀ u ∈ ncells a, u.oneCell' = true := by
  intro u hu
  simp [ncells, MN.cells] at hu
  obtain ⟨x, _, h | h | h | h | h⟩ := hu <;> subst h <;> rfl
set_option maxRecDepth 100000 in
set_option maxHeartbeats 2000000 in
theorem concatE_any (qs : List (Pc En)) (ga : Option Addr) (gc : Nat) (S : Bl) (w : World) (hR : RowOn w S ga (qs.map Pc.val)) (hq : ∀ q ∈ qs, q.l.length ≤ q.c ∧ RowOn w S q.a (ecells q.l)) (hS : ∀ b, S b → b < w.heap.size) (hn : lens qs ≤ 1000000) (hql : qs.length ≤ 1000000) (hgc : qs.length ≤ gc) :
    Calls Tryz.prog 185 #[.slice ga qs.length gc] w fun e w' => ∃ v, e = .returned v ∧ w'.ownsRow 0 102 4 v (lens qs) (ecells (qs.flatMap (·.l))) ∧ Below w.heap.size w w' ∧ ∀ k, v.ownBlock = some k → w.heap.size ≤ k := by
  have hG := growE_any (lens qs) w (by omega)
  go_enter Tryz.func185, Tryz.ntmps185
  go_wp2
  go_loopw [3, 11] (fun a b wr => ∃ j : Nat, a = .int .i64 (lens (qs.take j)) ∧ b = .int .i64 j ∧ j ≤ qs.length ∧ wr = w) (fun _ b _ => qs.length - (intOf b).toNat)
  case atStart => exact ⟨0, by simp [lens], rfl, Nat.zero_le _, rfl⟩
  case round =>
    obtain ⟨j, rfl, rfl, hj, hwr⟩ := hrel
    subst wr
    by_cases hlt : j < qs.length
    · obtain ⟨Q, hQ⟩ : ∃ Q, qs[j] = Q := ⟨_, rfl⟩
      obtain ⟨gb, go, hga, hgb, hcell⟩ := hR.val (j := j) (u := .slice Q.a Q.l.length Q.c) (by rw [List.getElem?_map, List.getElem?_eq_getElem hlt, hQ]; rfl)
      subst hga
      have hle1 := lens_le qs (j + 1)
      have htk := lens_take1 qs j hlt
      rw [hQ] at htk
      obtain ⟨n, hn'⟩ : ∃ n, lens (qs.take j) = n := ⟨_, rfl⟩
      rw [hn'] at htk
      obtain ⟨m, hm'⟩ : ∃ m, Q.l.length = m := ⟨_, rfl⟩
      rw [hm'] at htk hcell
      have hnm : n + m ≤ 1000000 := by omega
      have HTK : Hid (lens (qs.take (j + 1)) = n + m) := htk
      simp only [hn']
      clear htk hle1 hn' hm' hQ hG hR hq
      have hnn : ¬ ((n : Int) + (m : Int) < 0) := by omega
      go_wp2
      go_roundw
      case rel => exact ⟨j + 1, by rw [HTK.out]; congr 1, by go_num, by omega, by first | trivial | rfl⟩
      case measure => simp [intOf]; omega
    · obtain rfl : j = qs.length := by omega
      have HTL : Hid (qs.take qs.length = qs) := List.take_length
      simp only [List.take_length]
      obtain ⟨N, hN⟩ : ∃ N, lens qs = N := ⟨_, rfl⟩
      have HN : Hid (lens qs = N) := hN
      rw [hN] at hG hn
      simp only [hN]
      clear hN
      go_wp2_with (go_at_call 187; refine hG.mono ?_; clear hG; rintro e w1 ⟨v, rfl, ho1, hb1, hl1⟩)
      go_loopw [6, 27] (fun a b wr => ∃ j : Nat, b = .int .i64 j ∧ j ≤ qs.length ∧ wr.ownsRow 0 102 4 a (lens (qs.take j)) (ecells ((qs.take j).flatMap (·.l))) ∧ Below w.heap.size w wr ∧ ∀ k, a.ownBlock = some k → w.heap.size ≤ k) (fun _ b _ => qs.length - (intOf b).toNat)
      case atStart => exact ⟨0, rfl, Nat.zero_le _, by simpa [lens, ecells] using ho1, hb1, hl1⟩
      case round =>
        obtain ⟨j, rfl, hj2, ho, hb, hk⟩ := hrel
        obtain ⟨aa, ac, rfl⟩ := own_shape ho
        by_cases hlt2 : j < qs.length
        · obtain ⟨Q, hQ⟩ : ∃ Q, qs[j] = Q := ⟨_, rfl⟩
          have hQm : Q ∈ qs := hQ ▸ List.getElem_mem hlt2
          obtain ⟨gb, go, hga, hgb, hcell⟩ := (hR.on (On.of_below hb hS)).val (j := j) (u := .slice Q.a Q.l.length Q.c) (by rw [List.getElem?_map, List.getElem?_eq_getElem hlt2, hQ]; rfl)
          subst hga
          have hle1 := lens_le qs (j + 1)
          have htk := lens_take1 qs j hlt2
          rw [hQ] at htk
          have htk2 : (qs.take (j + 1)).flatMap (·.l) = (qs.take j).flatMap (·.l) ++ Q.l := by rw [List.take_succ_eq_append_getElem hlt2, hQ]; simp
          obtain ⟨n, hn'⟩ : ∃ n, lens (qs.take j) = n := ⟨_, rfl⟩
          rw [hn'] at htk ho
          simp only [hn'] at hk
          have hle2 : n + Q.l.length ≤ 1000000 := by have := HN.out; omega
          have HTK : Hid (lens (qs.take (j + 1)) = n + Q.l.length) := htk
          have HTK2 : Hid (ecells ((qs.take (j + 1)).flatMap (·.l)) = ecells ((qs.take j).flatMap (·.l)) ++ ecells Q.l) := by show _ = _; rw [htk2, ecells_append]
          simp only [hn']
          have hQr := (hq Q hQm).2.on (On.of_below hb hS)
          clear htk htk2 hle1 hn' hQ
          obtain ⟨Qa, Qc, Ql⟩ := Q
          simp only at hcell hle2 hQr HTK HTK2
          by_cases hl0 : 0 < Ql.length
          · obtain ⟨rb, ro, rfl, hrb⟩ := hQr.addr (ecells_ne hl0)
            have hnews : ∀ i u, (ecells Ql)[i]? = some u → wr.cell? ((⟨rb, ro, none⟩ : Addr).add i) = some u := by
              intro i u hu
              obtain ⟨b, off, hbo, _, hc⟩ := hQr.val hu
              simp only [Option.some.injEq, Addr.mk.injEq, and_true] at hbo
              obtain ⟨rfl, rfl⟩ := hbo
              have e : (⟨rb, ro, none⟩ : Addr).add i = ⟨rb, ro + i, none⟩ := by unfold Addr.add; split <;> simp_all
              rw [e]; exact hc
            go_wp2_with (at_builtin; refine wp_app wr rfl (.tmp 31) (.tmp 32) 70 102 _ 4 48 rfl Tryz.underlying70 infoEn rfl (by decide) (.slice aa n ac) n (ecells ((qs.take j).flatMap (·.l))) rfl ho ⟨rb, ro, none⟩ Ql.length Qc (ecells Ql) rfl (ecells_len Ql) hnews (ecells_one Ql) (by omega) (by omega) ?_; intro v3 w3 A3; obtain ⟨g3, k3, rfl⟩ := A3.shape hl0)
            go_roundw
            case rel =>
              refine ⟨j + 1, by go_num, by omega, by rw [HTK.out, HTK2.out]; exact A3.row, hb.trans (A3.fr.below hb.size hk), ?_⟩
              intro k h
              rcases A3.lies k h with h | h
              · exact hk k h
              · exact Nat.le_trans hb.size h
            case measure => simp [intOf]; omega
          · obtain rfl := List.eq_nil_of_length_eq_zero (by omega : Ql.length = 0)
            simp only [List.length_nil] at hcell
            go_wp2_with (at_builtin; refine wp_app0 wr rfl (.tmp 31) (.tmp 32) 70 102 _ 4 48 rfl Tryz.underlying70 infoEn (.slice aa n ac) n (ecells ((qs.take j).flatMap (·.l))) rfl ho Qa Qc rfl ?_)
            go_roundw
            case rel => exact ⟨j + 1, by go_num, by omega, by rw [HTK.out, HTK2.out]; simpa [ecells] using ho, hb, hk⟩
            case measure => simp [intOf]; omega
        · obtain rfl : j = qs.length := by omega
          simp only [List.take_length] at ho hk ⊢
          go_wp2
          go_ret
          exact ⟨_, rfl, ho, hb, hk⟩
end Go.Proofs.YtngpplmndpmgiaaGreat.Tree
