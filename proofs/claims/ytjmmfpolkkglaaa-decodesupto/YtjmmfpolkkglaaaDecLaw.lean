/-
  What the law Decodes answers.
-/
import Derived.Test.YtjmmfpolkkglaaaBook5
import Derived.Test.YtjmmfpolkkglaaaDecUni
import Derived.Test.YtjmmfpolkkglaaaWhole
import Derived.Test.YtjmmfpolkkglaaaDecHead
import Derived.Test.YtjmmfpolkkglaaaEncLaw0
import Derived.Deep.DeepCutAuto
import Derived.Deep.RegionWith
import Derived.Deep.CutBlock
import Derived.Deep.RegionLaw
namespace Go.Proofs.Ytjmmfpolkkglaaa.Pages
open Go.RowKit
set_option linter.unusedSimpArgs false
set_option linter.unusedVariables false

theorem BookAt.below {w w' : World} {B0 β : Nat} {vt vi ve : Value} {ts is es : List Value} (h : BookAt w B0 β vt vi ve ts is es) (hb : Below w.heap.size w w') : BookAt w' B0 β vt vi ve ts is es :=
  ⟨(hb.block β (Array.getElem?_eq_some_iff.1 h.box).1).trans h.box, h.le, own_below hb h.ot, own_below hb h.oi, own_below hb h.oe, h.nt, h.ni, h.ne, fun j hj => by obtain ⟨m, hm, hc⟩ := h.ct j hj; exact ⟨m, hm, own_below hb hc⟩, fun j hj => by obtain ⟨m, hm, hc⟩ := h.ci j hj; exact ⟨m, hm, own_below hb hc⟩, fun j hj => by obtain ⟨m, hm, hc⟩ := h.ce j hj; exact ⟨m, hm, own_below hb hc⟩⟩
theorem byteV_of (m : Nat) : byteV (UInt8.ofNat m) = .int .u8 ((m : Int) % 256) := by unfold byteV; simp
set_option maxRecDepth 100000 in
set_option maxHeartbeats 4000000 in
theorem decodes_walk (s : ByteArray) (at_ : Int) (by_ : UInt8) (right : Bool) (kind ver root next : Int) (ka ia ea : Option Addr) (kc ic ec : Nat) (data : ByteArray) (keys : List ByteArray) (kids : List Int) (ents : List Ent) (w : World)
    (a0 : -9223372036854775808 ≤ at_) (a1 : at_ ≤ 9223372036854775807)
    (hK : RowAt w w.heap.size ka (keys.map .string)) (hI : RowAt w w.heap.size ia (kids.map (.int .i64))) (hE : RowAt w w.heap.size ea (ents.flatMap Ent.cells))
    (hs : Small keys kids ents data) (hks : ∀ (j : Nat) (hj : j < keys.length), keys[j].size ≤ 1073741824) :
    Calls Try.prog 5 #[.string s, .agg #[.int .i64 kind, .int .i64 ver, .int .i64 root, .int .i64 next, .slice ka keys.length kc, .slice ia kids.length ic, .slice ea ents.length ec, .string data], .int .i64 at_, .int .u8 (by_.toNat : Int), .bool right] w fun e w' => e = .returned (.bool true) ∧ Below w.heap.size w w' := by
  have hb0 := (Below.refl w.heap.size w).alloc (Nat.le_refl _) (.cells #[.int .i64 kind, .int .i64 ver, .int .i64 root, .int .i64 next, .slice ka keys.length kc, .slice ia kids.length ic, .slice ea ents.length ec, .string data] 28)
  have hp0 := heap_new w (.cells #[.int .i64 kind, .int .i64 ver, .int .i64 root, .int .i64 next, .slice ka keys.length kc, .slice ia kids.length ic, .slice ea ents.length ec, .string data] 28)
  have hz0 := size_one w (.cells #[.int .i64 kind, .int .i64 ver, .int .i64 root, .int .i64 next, .slice ka keys.length kc, .slice ia kids.length ic, .slice ea ents.length ec, .string data] 28)
  go_enter Try.func5, Try.ntmps5
  go_upto_region 6 with (go_at_call 9; refine (first_any _).mono ?_; rintro e w1 ⟨rfl, hb1⟩)
  have hw1 : w.heap.size < w1.heap.size := by have := hb1.size; omega
  have hp1 := (hb1.block w.heap.size (by omega)).trans hp0
  have hB1 : Below w.heap.size w w1 := hb0.trans (hb1.mono (by omega))
  have hp3 := keep_alloc (x := (.cells #[.string s] 9)) (keep_alloc (x := (.cells #[.slice none 0 0, .slice none 0 0, .slice none 0 0, .slice none 0 0] 42)) hp1)
  have hbk := keep_alloc (x := (.cells #[.string s] 9)) (heap_new w1 (.cells #[.slice none 0 0, .slice none 0 0, .slice none 0 0, .slice none 0 0] 42))
  have hT : Keys ((w1.alloc (.cells #[.slice none 0 0, .slice none 0 0, .slice none 0 0, .slice none 0 0] 42)).alloc (.cells #[.string s] 9)) (w1.heap.size + 1) (.slice (some ⟨w1.heap.size + 1, 0, none⟩) 1 1) [s] := by
    have := World.ownsRow_lit (base := w1.heap.size + 1) (e := 9) (size := 1) (w1.alloc (.cells #[.slice none 0 0, .slice none 0 0, .slice none 0 0, .slice none 0 0] 42)) #[.string s] 1 (by rw [size_one]; omega) (by decide) rfl
    rw [size_one] at this
    exact this
  have hB3 : Below w.heap.size w ((w1.alloc (.cells #[.slice none 0 0, .slice none 0 0, .slice none 0 0, .slice none 0 0] 42)).alloc (.cells #[.string s] 9)) := (hB1.alloc (by omega) _).alloc (by rw [size_one]; omega) _
  have hz3 : ((w1.alloc (.cells #[.slice none 0 0, .slice none 0 0, .slice none 0 0, .slice none 0 0] 42)).alloc (.cells #[.string s] 9)).heap.size = w1.heap.size + 1 + 1 := by rw [size_one, size_one]
  generalize (w1.alloc (.cells #[.slice none 0 0, .slice none 0 0, .slice none 0 0, .slice none 0 0] 42)).alloc (.cells #[.string s] 9) = w3 at hp3 hbk hT hB3 hz3 ⊢
  clear hp0 hp1 hb1 hb0 hz0
  have hEn := fun u (hu : Below w.heap.size w u) => ref_encode_any kind ver root next ka ia ea kc ic ec data keys kids ents u ((hK.below hu).mono hu.size) ((hI.below hu).mono hu.size) ((hE.below hu).mono hu.size) hs hks
  obtain ⟨SS, hSS⟩ : ∃ SS, encS kind ver root next keys kids ents data = SS := ⟨_, rfl⟩
  obtain ⟨EE, hEE⟩ : ∃ EE, encE kind ver root next keys kids ents data = EE := ⟨_, rfl⟩
  have H256 : Hid (EE = 0 → SS.size = 256) := by
    show _ → _
    intro h
    rw [h] at hEE
    have := whole_len (enc_whole ⟨kind, ver, root, next, keys, kids, ents, data⟩ hEE)
    rw [data_length] at this
    rw [← hSS]
    exact this
  rw [hSS, hEE] at hEn
  clear hSS hEE
  obtain ⟨x0, x1, x2, x3, x4, x5, x6, x7⟩ := box8 hp3
  obtain ⟨v13, hv13⟩ : ∃ v13, Value.slice (some ⟨w1.heap.size + 1, 0, none⟩) 1 1 = v13 := ⟨_, rfl⟩
  rw [hv13] at hT
  rw [hv13]
  clear hv13
  go_upto_region 7 with (go_at_call 13; refine (hEn w3 hB3).mono ?_; rintro e w4 ⟨rfl, hb4⟩)
  have hbk4 := (hb4.block w1.heap.size (by omega)).trans hbk
  have hT4 : Keys w4 (w1.heap.size + 1) v13 [s] := hT.below hb4
  have hB4 : Below w.heap.size w w4 := hB3.trans (hb4.mono (by omega))
  have hz4 : w1.heap.size + 1 < w4.heap.size := by have := hb4.size; omega
  clear hb4 hp3 hbk hT hB3 hz3 x0 x1 x2 x3 x4 x5 x6 x7 hEn
  go_upto_if 40 with fail
  go_cut [13] (fun v wx => ∃ texts : List ByteArray, 1 ≤ texts.length ∧ texts.length ≤ 2 ∧ Keys wx (w1.heap.size + 1) v texts ∧ wx.heap[w1.heap.size]? = some (.cells #[.slice none 0 0, .slice none 0 0, .slice none 0 0, .slice none 0 0] 42) ∧ Below w.heap.size w wx)
  case first =>
    cases hE0 : (EE == 0)
    · go_wp2
      go_meet
      exact ⟨[s], by simp, by simp, hT4, hbk4, hB4⟩
    · have h256 : SS.size = 256 := H256.out (by simpa using hE0)
      have HL : Hid (SS.size = 256) := h256
      clear h256 H256
      obtain ⟨c, v, hcv, hvb, hX, hcc⟩ := conv_br SS w4
      have H0 : HS w v w1.heap.size w4.heap.size v13 [s] SS.data.toList := ⟨hX, hT4.below hvb, fun b hb => (World.ownsRow.lt (w := w4) hT4 b hb).2, (hvb.block w1.heap.size (by omega)).trans hbk4, hB4.trans (hvb.mono (by omega)), by omega, by omega⟩
      have hlB : SS.data.toList.length = 256 := by rw [data_length, HL.out]
      obtain ⟨γ, hγ⟩ : ∃ γ, w4.heap.size = γ := ⟨_, rfl⟩
      rw [hγ] at hcv H0
      have hγw : w1.heap.size + 1 < γ := by omega
      generalize SS.data.toList = bs at H0 hlB
      have HLB : Hid (bs.length = 256) := hlB
      clear hX hvb hT4 hbk4 hB4 hγ hz4 hlB
      go_upto_region 10 with (go_at_call 14; refine (pick_law _ _ _ (by assumption) (by assumption) (by decide)).mono ?_; rintro e w' ⟨mk, hm0, hm1, rfl, hw⟩; subst w')
      obtain ⟨k, rfl⟩ : ∃ k : Nat, mk = k := ⟨mk.toNat, by omega⟩
      have hk : k < bs.length := by rw [HLB.out]; omega
      have hk' : (k : Int) < (SS.size : Int) := by rw [HL.out]; omega
      have hck := H0.br.cell k hk
      have hfk := H0.br.free k hk
      obtain ⟨bk, hbk0⟩ : ∃ bk, bs[k] = bk := ⟨_, rfl⟩
      rw [hbk0] at hck
      unfold byteV at hck
      have hbt := bk.toNat_lt
      have hyt := by_.toNat_lt
      go_upto_region 11 with fail
      rw [xor_byte]
      have H := H0.set k hk (bk ^^^ by_)
      have HLB2 : Hid ((bs.set k (bk ^^^ by_)).length = 256) := by show _ = _; rw [List.length_set]; exact HLB.out
      unfold byteV at H
      generalize v.setCell ⟨γ, k, none⟩ (.int .u8 ((bk ^^^ by_).toNat : Int)) = v2 at H ⊢
      generalize bs.set k (bk ^^^ by_) = bs2 at H HLB2
      clear H0 hck hfk hbt hyt hbk0 hk hk' hcv
      cases right
      · have hcv2 := H.br.conv SS.size c (by rw [HL.out, HLB2.out]; omega)
        obtain ⟨X, hX⟩ : ∃ X : ByteArray, ⟨(bs2.take SS.size).toArray⟩ = X := ⟨_, rfl⟩
        rw [hX] at hcv2
        have hsz : w1.heap.size + 1 ≤ v2.heap.size := by have := H.br; obtain ⟨_, _, hr, _⟩ := this; have := (Array.getElem?_eq_some_iff.1 hr).1; omega
        clear hX
        go_wp2_with (at_builtin; refine wp_append_key v2 rfl (.tmp 72) (.tmp 75) rfl (w1.heap.size + 1) [s] v13 rfl H.tx hsz X rfl (by simp) ?_; intro v6 w6 hK6 hb6)
        go_meet
        exact ⟨[s] ++ [X], by simp, by simp, hK6, (hb6.block w1.heap.size (Nat.lt_succ_self _)).trans H.bk, H.bel.trans (hb6.mono (by omega))⟩
      · have hcv2 := H.br.conv 252 c (by rw [HLB2.out]; omega)
        obtain ⟨X, hX⟩ : ∃ X : ByteArray, ⟨(bs2.take 252).toArray⟩ = X := ⟨_, rfl⟩
        have hXs : X.size ≤ maxLen := by rw [← hX]; show (bs2.take 252).toArray.size ≤ _; simp; unfold maxLen; omega
        rw [hX] at hcv2
        have hcc2 : (252 : Int) ≤ (c : Int) := by rw [HL.out] at hcc; omega
        clear hX
        go_upto_region 13 with (go_at_call 8; refine (Crc.ref_crc _ _ hXs).mono ?_; rintro e w' ⟨rfl, hw⟩; subst w')
        have hNl := Crc.crc_lt X.data.toList
        generalize Crc.crc X.data.toList = N at hNl ⊢
        clear hcv2 hXs
        go_wp2
        go_loopw [19] (fun i wr => ∃ (j : Nat) (b3 : List UInt8), j ≤ 4 ∧ i = .int .i64 j ∧ HS w wr w1.heap.size γ v13 [s] b3 ∧ Hid (b3.length = 256)) (fun i _ => 4 - (intOf i).toNat)
        case atStart => exact ⟨0, bs2, by omega, rfl, H, HLB2⟩
        case round =>
          clear H HLB2
          obtain ⟨j, b3, hj, rfl, H, HB⟩ := hrel
          by_cases hlt : j < 4
          · have hi1 : 255 - j < b3.length := by rw [HB.out]; omega
            have hck := H.br.cell (255 - j) hi1
            have hfk := H.br.free (255 - j) hi1
            have hS1 : (255 : Int) < (SS.size : Int) := by rw [HL.out]; decide
            have hj4 : j = 0 ∨ j = 1 ∨ j = 2 ∨ j = 3 := by omega
            unfold byteV at hck
            rcases hj4 with rfl | rfl | rfl | rfl
            · have H2 := H.set 255 hi1 (UInt8.ofNat N)
              rw [byteV_of] at H2
              have HB2 : Hid ((b3.set 255 (UInt8.ofNat N)).length = 256) := by show _ = _; rw [List.length_set]; exact HB.out
              try simp only [Int.natCast_ediv, Int.cast_ofNat_Int] at H2
              go_wp2
              first
                | exact ⟨⟨1, _, by omega, rfl, H2, HB2⟩, by simp [intOf]⟩
            · have H2 := H.set 254 hi1 (UInt8.ofNat (N / 256))
              rw [byteV_of] at H2
              have HB2 : Hid ((b3.set 254 (UInt8.ofNat (N / 256))).length = 256) := by show _ = _; rw [List.length_set]; exact HB.out
              try simp only [Int.natCast_ediv, Int.cast_ofNat_Int] at H2
              go_wp2
              first
                | exact ⟨⟨2, _, by omega, rfl, H2, HB2⟩, by simp [intOf]⟩
            · have H2 := H.set 253 hi1 (UInt8.ofNat (N / 65536))
              rw [byteV_of] at H2
              have HB2 : Hid ((b3.set 253 (UInt8.ofNat (N / 65536))).length = 256) := by show _ = _; rw [List.length_set]; exact HB.out
              try simp only [Int.natCast_ediv, Int.cast_ofNat_Int] at H2
              go_wp2
              first
                | exact ⟨⟨3, _, by omega, rfl, H2, HB2⟩, by simp [intOf]⟩
            · have H2 := H.set 252 hi1 (UInt8.ofNat (N / 16777216))
              rw [byteV_of] at H2
              have HB2 : Hid ((b3.set 252 (UInt8.ofNat (N / 16777216))).length = 256) := by show _ = _; rw [List.length_set]; exact HB.out
              try simp only [Int.natCast_ediv, Int.cast_ofNat_Int] at H2
              rw [show (N : Int) / 16777216 % 256 = (N : Int) / 16777216 by omega] at H2
              go_wp2
              first
                | exact ⟨⟨4, _, by omega, rfl, H2, HB2⟩, by simp [intOf]⟩
          · obtain rfl : j = 4 := by omega
            have hcv2 := H.br.conv SS.size c (by rw [HL.out, HB.out]; omega)
            obtain ⟨Y, hY⟩ : ∃ Y : ByteArray, ⟨(b3.take SS.size).toArray⟩ = Y := ⟨_, rfl⟩
            rw [hY] at hcv2
            have hsz : w1.heap.size + 1 ≤ wr.heap.size := by have := H.br; obtain ⟨_, _, hr, _⟩ := this; have := (Array.getElem?_eq_some_iff.1 hr).1; omega
            clear hY
            go_wp2_with (at_builtin; refine wp_append_key wr rfl (.tmp 72) (.tmp 75) rfl (w1.heap.size + 1) [s] v13 rfl H.tx hsz Y rfl (by simp) ?_; intro v6 w6 hK6 hb6)
            go_meet
            exact ⟨[s] ++ [Y], by simp, by simp, hK6, (hb6.block w1.heap.size (Nat.lt_succ_self _)).trans H.bk, H.bel.trans (hb6.mono (by omega))⟩
  case rest =>
    obtain ⟨texts, ht1, ht2, hT, hbk, hB⟩ := hcut
    clear hT4 hbk4 hB4 H256 hK hI hE hs hks a0 a1
    have Bk0 : BookAt wc w1.heap.size w1.heap.size (.slice none 0 0) (.slice none 0 0) (.slice none 0 0) [] [] [] := ⟨hbk, Nat.le_refl _, World.ownsRow_nil _ _ _ _, World.ownsRow_nil _ _ _ _, World.ownsRow_nil _ _ _ _, by simp, by simp, by simp, fun j h => by simp at h, fun j h => by simp at h, fun j h => by simp at h⟩
    obtain ⟨xa, xc, rfl, hxz⟩ := own_cells hT
    clear hxz
    go_wp2
    go_loopw [20] (fun i wr => ∃ (j : Nat) (VT VI VE : Value) (TS IS ES : List Value), j ≤ 2 * texts.length ∧ i = .int .i64 j ∧ Keys wr (w1.heap.size + 1) (.slice xa texts.length xc) texts ∧ BookAt wr w1.heap.size w1.heap.size VT VI VE TS IS ES ∧ Hid (TS.length = 4 * j ∧ IS.length = 4 * j ∧ ES.length = 4 * j) ∧ Below w.heap.size w wr) (fun i _ => 2 * texts.length - (intOf i).toNat)
    case atStart => exact ⟨0, _, _, _, [], [], [], Nat.zero_le _, rfl, hT, Bk0, ⟨rfl, rfl, rfl⟩, hB⟩
    case round =>
      clear hT hbk hB Bk0
      obtain ⟨j, VT, VI, VE, TS, IS, ES, hj, rfl, hT, Bk, HN, hB⟩ := hrel
      by_cases hlt : j < 2 * texts.length
      · obtain ⟨a', c', hv, hnz⟩ := own_cells hT
        obtain ⟨g, hga, hgl, hcs⟩ := hnz (by omega)
        obtain ⟨rfl, rfl⟩ : xa = some ⟨g, 0, none⟩ ∧ xc = c' := by simp at hv; exact ⟨hv.1.trans hga, hv.2⟩
        obtain ⟨q, hq, hq2⟩ : ∃ q : Nat, (j : Int) / 2 = (q : Int) ∧ q < texts.length := ⟨j / 2, by omega, by omega⟩
        have hcell : wr.cell? ⟨g, q, none⟩ = some (.string texts[q]) := hcs q _ (by rw [List.getElem?_map, List.getElem?_eq_getElem hq2]; rfl)
        obtain ⟨S, hS⟩ : ∃ S, texts[q] = S := ⟨_, rfl⟩
        rw [hS] at hcell
        have hd := decode_uni S wr
        clear hcs hnz hv hga hS
        go_upto_region 22 with (go_at_call 15; refine hd.mono ?_; rintro e w5 ⟨pv, rfl, ⟨vk, vi, ve, rfl, pK, pI, pE⟩, hb5⟩; obtain ⟨ka', kc', rfl, _⟩ := own_cells pK; obtain ⟨ia', ic', rfl, _⟩ := own_cells pI; obtain ⟨ea', ec', rfl, _⟩ := own_cells pE)
        obtain ⟨l1, l2, l3⟩ := decP_lens S
        have lo1 : ∀ (i : Nat) (h : i < TS.length) b, TS[i].ownBlock = some b → b < wr.heap.size := fun i h b hb => by obtain ⟨m, _, hc⟩ := Bk.ct i h; exact (World.ownsRow.lt (w := wr) hc b hb).2
        have lo2 : ∀ (i : Nat) (h : i < IS.length) b, IS[i].ownBlock = some b → b < wr.heap.size := fun i h b hb => by obtain ⟨m, _, hc⟩ := Bk.ci i h; exact (World.ownsRow.lt (w := wr) hc b hb).2
        have lo3 : ∀ (i : Nat) (h : i < ES.length) b, ES[i].ownBlock = some b → b < wr.heap.size := fun i h b hb => by obtain ⟨m, _, hc⟩ := Bk.ce i h; exact (World.ownsRow.lt (w := wr) hc b hb).2
        have lot : ∀ b, (Value.slice (some ⟨g, 0, none⟩) texts.length xc).ownBlock = some b → b < wr.heap.size := fun b hb => (World.ownsRow.lt (w := wr) hT b hb).2
        have hwr : w1.heap.size < wr.heap.size := (Array.getElem?_eq_some_iff.1 Bk.box).1
        have hwz : wr.heap.size ≤ w5.heap.size := hb5.size
        have hcell5 := (hb5.cell (p := ⟨g, q, none⟩) hgl).trans hcell
        have hT5 : Keys w5 (w1.heap.size + 1) (.slice (some ⟨g, 0, none⟩) texts.length xc) texts := hT.below hb5
        have Bk5 := Bk.below hb5
        have hB5 : Below w.heap.size w w5 := hB.trans (hb5.mono (by omega))
        have hr := ref_decode_uni S
        generalize decP S = P at pK pI pE l1 l2 l3 hr ⊢
        generalize decE S = EE2 at hr ⊢
        have ab := (Below.refl w5.heap.size w5).alloc (Nat.le_refl _) (pageG P ka' ia' ea' kc' ic' ec')
        have hp6 := heap_new w5 (pageG P ka' ia' ea' kc' ic' ec')
        have hz6 := size_one w5 (pageG P ka' ia' ea' kc' ic' ec')
        have hcell6 := (ab.cell (p := ⟨g, q, none⟩) (Nat.lt_of_lt_of_le hgl hwz)).trans hcell5
        generalize w5.alloc (pageG P ka' ia' ea' kc' ic' ec') = w6 at ab hp6 hz6 hcell6 ⊢
        have pK6 : Keys w6 wr.heap.size _ _ := pK.below ab
        have pI6 : Ints w6 wr.heap.size _ _ := own_below ab pI
        have pE6 : EntsR w6 wr.heap.size _ _ := own_below ab pE
        have hT6 : Keys w6 (w1.heap.size + 1) (.slice (some ⟨g, 0, none⟩) texts.length xc) texts := hT5.below ab
        have Bk6 := Bk5.below ab
        have hB6 : Below w.heap.size w w6 := hB5.trans (ab.mono (by omega))
        have hr6 := hr w6
        have HZ6 : Hid (w6.heap.size = w5.heap.size + 1) := hz6
        clear hr hd hT hT5 Bk Bk5 hB hB5 pK pI pE hcell hcell5 ab hb5 hz6
        go_upto_region 23 with (go_at_call 16; refine hr6.mono ?_; rintro e w7 ⟨pv, rfl, ⟨vk, vi, ve, rfl, rK, rI, rE⟩, hb7⟩; obtain ⟨ka2, kc2, rfl, _⟩ := own_cells rK; obtain ⟨ia2, ic2, rfl, _⟩ := own_cells rI; obtain ⟨ea2, ec2, rfl, _⟩ := own_cells rE)
        have ab := (Below.refl w7.heap.size w7).alloc (Nat.le_refl _) (pageG P ka2 ia2 ea2 kc2 ic2 ec2)
        have hp8 := heap_new w7 (pageG P ka2 ia2 ea2 kc2 ic2 ec2)
        have hz8 := size_one w7 (pageG P ka2 ia2 ea2 kc2 ic2 ec2)
        have h67 : w6.heap.size ≤ w7.heap.size := hb7.size
        have z6 := HZ6.out
        have hpa7 := (hb7.block w5.heap.size (by omega)).trans hp6
        have hpa8 := (ab.block w5.heap.size (by omega)).trans hpa7
        generalize w7.alloc (pageG P ka2 ia2 ea2 kc2 ic2 ec2) = w8 at ab hp8 hz8 hpa8 ⊢
        have b68 : Below w6.heap.size w6 w8 := hb7.trans (ab.mono h67)
        have pK8 : Keys w8 wr.heap.size _ _ := pK6.below b68
        have pI8 : Ints w8 wr.heap.size _ _ := own_below b68 pI6
        have pE8 : EntsR w8 wr.heap.size _ _ := own_below b68 pE6
        have rK8 : Keys w8 w6.heap.size _ _ := rK.below ab
        have rI8 : Ints w8 w6.heap.size _ _ := own_below ab rI
        have rE8 : EntsR w8 w6.heap.size _ _ := own_below ab rE
        have hT8 : Keys w8 (w1.heap.size + 1) (.slice (some ⟨g, 0, none⟩) texts.length xc) texts := hT6.below b68
        have Bk8 := Bk6.below b68
        have hB8 : Below w.heap.size w w8 := hB6.trans (b68.mono (by omega))
        obtain ⟨_, _, e1, rr1⟩ := own_row pK8
        obtain ⟨_, _, e2, rr2⟩ := own_row pI8
        obtain ⟨_, _, e3, rr3⟩ := own_row pE8
        obtain ⟨_, _, e4, rr4⟩ := own_row rK8
        obtain ⟨_, _, e5, rr5⟩ := own_row rI8
        obtain ⟨_, _, e6, rr6⟩ := own_row rE8
        obtain ⟨rfl, rfl⟩ : _ ∧ _ := by simpa using e1
        obtain ⟨rfl, rfl⟩ : _ ∧ _ := by simpa using e2
        obtain ⟨rfl, rfl⟩ : _ ∧ _ := by simpa using e3
        obtain ⟨rfl, rfl⟩ : _ ∧ _ := by simpa using e4
        obtain ⟨rfl, rfl⟩ : _ ∧ _ := by simpa using e5
        obtain ⟨rfl, rfl⟩ : _ ∧ _ := by simpa using e6
        obtain ⟨y0, y1, y2, y3, y4, y5, y6, y7⟩ := box8 hpa8
        obtain ⟨z0, z1, z2, z3, z4, z5, z7, z8⟩ := box8 hp8
        have hSm := fun (s1 s2 s3 s4 s5 s6 : Nat) => same_same P.kind P.ver P.root P.next _ _ _ _ _ _ s1 s2 s3 s4 s5 s6 P.data P.keys P.kids P.ents w8 rr1 rr2 rr3 rr4 rr5 rr6 (by omega) (by omega) (by omega)
        clear hr6 hb7 ab b68 hp6 hpa7 pK6 pI6 pE6 hT6 Bk6 hB6 rK rI rE rK8 rI8 rE8 rr1 rr2 rr3 rr4 rr5 rr6 hcell6
        have h58 : w5.heap.size < w8.heap.size := by omega
        have HZ8 : Hid (w8.heap.size = w7.heap.size + 1) := hz8
        clear hz8 z6
        go_upto_region 24 with (go_at_call 17; refine (hSm _ _ _ _ _ _).mono ?_; rintro e w9 ⟨rfl, hb9⟩)
        have hpa9 := (hb9.block w5.heap.size h58).trans hpa8
        have pK9 : Keys w9 wr.heap.size _ _ := pK8.below hb9
        have pI9 : Ints w9 wr.heap.size _ _ := own_below hb9 pI8
        have pE9 : EntsR w9 wr.heap.size _ _ := own_below hb9 pE8
        have hT9 : Keys w9 (w1.heap.size + 1) (.slice (some ⟨g, 0, none⟩) texts.length xc) texts := hT8.below hb9
        have Bk9 := Bk8.below hb9
        have h59 : w5.heap.size < w9.heap.size := Nat.lt_of_lt_of_le h58 hb9.size
        have hB9 : Below w.heap.size w w9 := hB8.trans (hb9.mono (by omega))
        have hKp := keep_any w1.heap.size wr.heap.size w1.heap.size VT VI VE TS IS ES P.kind P.ver P.root P.next _ _ _ P.keys.length P.kids.length P.ents.length _ _ _ P.data w9 Bk9 pK9 pI9 pE9 l1 l2 l3 (by rw [HN.out.1]; omega) (by rw [HN.out.2.1]; omega) (by rw [HN.out.2.2]; omega) (by rw [HN.out.1]; omega) (by rw [HN.out.2.1]; omega) (by rw [HN.out.2.2]; omega) lo1 lo2 lo3 (by omega) (by omega)
        clear y0 y1 y2 y3 y4 y5 y6 y7 z0 z1 z2 z3 z4 z5 z7 z8 hSm hb9 pK8 pI8 pE8 hT8 Bk8 hB8 hpa8 hp8
        obtain ⟨y0, y1, y2, y3, y4, y5, y6, y7⟩ := box8 hpa9
        go_upto_region 25 with (go_at_call 18; refine hKp.mono ?_; rintro e w10 ⟨rfl, VT2, VI2, VE2, TS2, IS2, ES2, Bk10, m1, m2, m3, hb10, hf10⟩)
        have hT10 : Keys w10 (w1.heap.size + 1) (.slice (some ⟨g, 0, none⟩) texts.length xc) texts := hf10 _ _ _ _ lot hT9
        have hB10 : Below w.heap.size w w10 := hB9.trans (hb10.mono (by omega))
        have hz10 : w.heap.size ≤ w10.heap.size := hB10.size
        have HN2 : Hid (TS2.length = 4 * (j + 1) ∧ IS2.length = 4 * (j + 1) ∧ ES2.length = 4 * (j + 1)) := ⟨by rw [m1, HN.out.1]; omega, by rw [m2, HN.out.2.1]; omega, by rw [m3, HN.out.2.2]; omega⟩
        have hLk := looks_any _ _ _ _ _ _ _ _ w10 Bk10
        clear hKp Bk9 hT9 hB9 hb10 hf10 m1 m2 m3 y0 y1 y2 y3 y4 y5 y6 y7 hpa9 pK9 pI9 pE9 lo1 lo2 lo3 lot
        go_wp2_with (go_at_call 19; refine hLk.mono ?_; rintro e w11 ⟨rfl, hb11⟩)
        have hT11 : Keys w11 (w1.heap.size + 1) (.slice (some ⟨g, 0, none⟩) texts.length xc) texts := hT10.below hb11
        have Bk11 := Bk10.below hb11
        have hB11 : Below w.heap.size w w11 := hB10.trans (hb11.mono hz10)
        go_roundw
        all_goals first
          | (exact (by simp [intOf]; omega))
          | exact ⟨j + 1, _, _, _, _, _, _, by omega, by go_num, hT11, Bk11, HN2, hB11⟩
          | ((repeat apply Exists.intro); exact ⟨⟨j + 1, _, _, _, _, _, _, by omega, by go_num, hT11, Bk11, HN2, hB11⟩, rfl⟩)
      · obtain rfl : j = 2 * texts.length := by omega
        clear hlt hj
        go_wp2
        go_ret
        exact ⟨rfl, hB⟩
end Go.Proofs.Ytjmmfpolkkglaaa.Pages
