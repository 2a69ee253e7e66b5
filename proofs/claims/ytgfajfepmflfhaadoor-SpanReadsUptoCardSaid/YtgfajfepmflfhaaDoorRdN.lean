/- The specification: the contract of Number, over this seat's translation. -/
import Derived.Test.YtgfajfepmflfhaaDoorRdC
import Derived.Test.YtgfajfepmflfhaaDoorRdQ
namespace Go.Proofs.YtgfajfepmflfhaaDoor
set_option linter.unusedVariables false
set_option linter.unusedSimpArgs false
open Go.RowKit Go.Lib

theorem index_any (B : ByteArray) (l : List UInt8) (hl : B.data.toList = l) (k : Nat) (h : k < l.length) (W : World) :
    (Instr.index 9 (.string B) (.int .i64 (k : Int))).run Tryd.prog W = .ok (.int .u8 (l[k].toNat : Int)) W := by
  subst hl
  have hk : k < B.size := by have : B.data.toList.length = B.size := Array.length_toList; omega
  rw [run_index_string _ _ _ _ _ (by kernel_rfl), dif_pos ⟨by omega, by omega⟩]
  rfl

/-- What Number answers: the number whose text it is, or false. -/
def Numbered (L : List UInt8) (e : Ending) : Prop :=
  (∃ n : Int, -1000000000000000 ≤ n ∧ n ≤ 1000000000000000 ∧ L = itoa n ∧ e = .returned (.tuple #[.int .i64 n, .bool true])) ∨
  (¬isNum L ∧ ∃ v : Int, e = .returned (.tuple #[.int .i64 v, .bool false]))

set_option maxHeartbeats 4000000 in
theorem rnumber_any (s : ByteArray) (w : World) :
    Calls Tryd.prog 13 #[.string s] w fun e w' => Numbered s.data.toList e ∧ Below w.heap.size w w' := by
  have qn : ∀ l : List UInt8, (l == s.toList) = decide (l = s.data.toList) := fun l => by
    rw [ByteArray.toList_eq]
    by_cases h : l = s.data.toList <;> simp [h]
  have h0 : s.data.toList.length = s.size := Array.length_toList
  cases hL : s.data.toList with
  | nil =>
    rw [hL] at h0
    have h1 : s.size = 0 := h0.symm
    have hN : ¬isNum [] := no_len (l := []) rfl (by simp)
    clear qn h0 hL
    go_enter Tryd.func13, Tryd.ntmps13
    go_wp2
    go_ret2
    exact ⟨.inr ⟨hN, _, rfl⟩, Below.refl _ _⟩
  | cons c r =>
    rw [hL] at h0
    have h1 : 0 < s.size := by rw [← h0]; simp
    have ix : ∀ W : World, (Instr.index 9 (.string s) (.int .i64 0)).run Tryd.prog W = .ok (.int .u8 (c.toNat : Int)) W := fun W => index_any s (c :: r) hL 0 (by simp) W
    by_cases hc : c = 45
    · subst hc
      have ix : ∀ W : World, (Instr.index 9 (.string s) (.int .i64 0)).run Tryd.prog W = .ok (.int .u8 45) W := ix
      have hB : (s.extract 1 s.size).data.toList = r := by
        rw [ByteArray.data_extract, Array.toList_extract, hL]
        simp [List.extract, ← h0]
      have hS : s.size = r.length + 1 := by rw [← h0]; simp
      rw [hS] at hB
      go_enter Tryd.func13, Tryd.ntmps13
      go_upto_region 4 with fail
      generalize s.extract 1 (r.length + 1) = B at hB ⊢
      clear ix h0
      have hz : B.size = r.length := by rw [← hB]; exact Array.length_toList.symm
      by_cases hle : 1 ≤ r.length ∧ r.length ≤ 16
      · obtain ⟨l1, l2⟩ := hle
        have z1 : 1 ≤ B.size := by omega
        have z2 : B.size ≤ 16 := by omega
        go_wp2_with fail
        go_loop [5, 6] (fun sn si => ∃ k : Nat, k ≤ r.length ∧ sn = .int .i64 (rd 0 (r.take k) : Nat) ∧ si = .int .i64 k ∧ ∀ c ∈ r.take k, isDig c) (fun _ si => r.length - (intOf si).toNat)
        case atStart => exact ⟨0, Nat.zero_le _, rfl, rfl, fun c hc => by simp at hc⟩
        case round =>
          obtain ⟨k, hk, rfl, rfl, hd⟩ := hrel
          by_cases hkl : k < r.length
          · have ix := index_any B r hB k hkl
            have RD := rd_take_succ hkl
            have lt := rd_take_lt r k l2 hd
            obtain ⟨V, hV⟩ : ∃ V, rd 0 (r.take k) = V := ⟨_, rfl⟩
            rw [hV] at RD lt
            obtain ⟨cc, hcc⟩ : ∃ cc, r[k] = cc := ⟨_, rfl⟩
            have hmem : cc ∈ r := hcc ▸ List.getElem_mem hkl
            have nx : isDig cc → ∀ c ∈ r.take (k + 1), isDig c := fun h => take_succ_digs hkl hd (by rw [hcc]; exact h)
            rw [hcc] at ix RD
            have c255 : cc.toNat < 256 := cc.toNat_lt
            obtain ⟨x, hxe⟩ : ∃ x : Nat, cc.toNat = x := ⟨_, rfl⟩
            rw [hxe] at ix RD c255
            have hb1 : k < B.size := by omega
            have NX := Lib.hid nx
            have RX := Lib.hid RD
            have HX := Lib.hid hxe
            rw [hV]
            clear nx RD hxe hd hcc hV
            by_cases x1 : x < 48
            · have hN : ¬isNum (45 :: r) := no_dig (body_neg r) hmem (by have := HX.out; unfold isDig; omega)
              go_wp2
              go_ret2
              exact ⟨.inr ⟨hN, _, rfl⟩, Below.refl _ _⟩
            · by_cases x2 : 57 < x
              · have hN : ¬isNum (45 :: r) := no_dig (body_neg r) hmem (by have := HX.out; unfold isDig; omega)
                go_wp2
                go_ret2
                exact ⟨.inr ⟨hN, _, rfl⟩, Below.refl _ _⟩
              · go_wp2
                go_round
                case rel => exact ⟨k + 1, by omega, by (have := RX.out; congr 1; omega), rfl, NX.out (by have := HX.out; unfold isDig; omega)⟩
                case measure => first | (simp [intOf]; done) | (simp [intOf]; omega)
          · have hkk : k = r.length := by omega
            subst hkk
            rw [List.take_length] at hd ⊢
            have lt : rd 0 r < 10000000000000000 := by have := rd_take_lt r r.length l2 (by rw [List.take_length]; exact hd); rwa [List.take_length] at this
            have hY : isNum (45 :: r) → _ := num_neg
            clear hd
            obtain ⟨V, hV⟩ : ∃ V, rd 0 r = V := ⟨_, rfl⟩
            rw [hV] at hY lt
            rw [hV]
            clear hV
            have HY := Lib.hid hY
            clear hY
            by_cases hr : -1000000000000000 ≤ (-(V : Int)) ∧ (-(V : Int)) ≤ 1000000000000000
            · obtain ⟨r0, r1⟩ := hr
              have er : inR (-(V : Int)) = true := by simp [inR]; omega
              have CW : ∀ W : World, Calls Tryd.prog 23 #[.int .i64 (-(V : Int))] W fun e w' => e = .returned (.bool true) ∧ W = w' := fun W => by have := within_any (-(V : Int)) W; rwa [er] at this
              have CD : ∀ W : World, Calls Tryd.prog 16 #[.int .i64 (-(V : Int))] W (Ret (.string ⟨(itoa (-(V : Int))).toArray⟩) W) := fun W => digits_any (-(V : Int)) W r0 r1
              have qb := qn (itoa (-(V : Int)))
              rw [hL] at qb
              clear qn
              by_cases hq : itoa (-(V : Int)) = (45 :: r)
              · have HQ := Lib.hid hq
                rw [decide_eq_true hq] at qb
                clear hq
                go_wp2_with (first | (go_at_call 23; refine (CW _).mono ?_; rintro e w' ⟨rfl, rfl⟩) | (go_at_call 16; refine (CD _).mono ?_; rintro e w1 ⟨rfl, hb⟩; have hB : Below w.heap.size w w1 := Below.trans (by (repeat first | with_reducible exact Below.refl _ _ | with_reducible assumption | (with_reducible refine Below.setCell ?_ ?_ _; rotate_left; exact (by first | omega | (simp; done) | (simp; omega))) | (with_reducible refine Below.alloc ?_ ?_ _; rotate_left; exact (by first | omega | (simp; done) | (simp; omega))) | with_reducible refine Below.drew ?_ | with_reducible refine Below_drewN ?_ _)) (hb.mono (by first | omega | (simp; done) | (simp; omega))); obtain ⟨hc, hf⟩ := bcell hb; have hs := hb.size; clear hb; (try simp only [World.size_alloc, World.size_setCell] at hc hf); (try simp only [World.size_alloc, World.size_setCell] at hs); (try have hs' := Nat.lt_of_succ_le hs); (try have hs0 : w.heap.size < w1.heap.size := by omega); (try have hs1 : w.heap.size + 1 < w1.heap.size := by omega); (try have hs2 : w.heap.size + 1 + 1 < w1.heap.size := by omega); (try have hs3 : w.heap.size + 1 + 1 + 1 < w1.heap.size := by omega); (try have iso : (w1.cell? ⟨w.heap.size, 0, none⟩).isSome = true := by (rw [hc _ _ (by first | omega | (simp; done) | (simp; omega))]; (try simp only [isSome_setCell]); first | assumption | go_simp)); (try have iso : (w1.cell? ⟨w.heap.size, 1, none⟩).isSome = true := by (rw [hc _ _ (by first | omega | (simp; done) | (simp; omega))]; (try simp only [isSome_setCell]); first | assumption | go_simp)); (try have iso : (w1.cell? ⟨w.heap.size + 1, 0, none⟩).isSome = true := by (rw [hc _ _ (by first | omega | (simp; done) | (simp; omega))]; (try simp only [isSome_setCell]); first | assumption | go_simp)); (try have iso : (w1.cell? ⟨w.heap.size + 1, 1, none⟩).isSome = true := by (rw [hc _ _ (by first | omega | (simp; done) | (simp; omega))]; (try simp only [isSome_setCell]); first | assumption | go_simp)); (try have iso : (w1.cell? ⟨w.heap.size + 1 + 1, 0, none⟩).isSome = true := by (rw [hc _ _ (by first | omega | (simp; done) | (simp; omega))]; (try simp only [isSome_setCell]); first | assumption | go_simp)); (try have iso : (w1.cell? ⟨w.heap.size + 1 + 1, 1, none⟩).isSome = true := by (rw [hc _ _ (by first | omega | (simp; done) | (simp; omega))]; (try simp only [isSome_setCell]); first | assumption | go_simp))))
                go_ret2
                exact ⟨.inl ⟨(-(V : Int)), r0, r1, HQ.out.symm, rfl⟩, by (repeat first | with_reducible exact Below.refl _ _ | with_reducible assumption | (with_reducible refine Below.setCell ?_ ?_ _; rotate_left; exact (by first | omega | (simp; done) | (simp; omega))) | (with_reducible refine Below.alloc ?_ ?_ _; rotate_left; exact (by first | omega | (simp; done) | (simp; omega))) | with_reducible refine Below.drew ?_ | with_reducible refine Below_drewN ?_ _)⟩
              · have hN : ¬isNum (45 :: r) := fun h => hq (HY.out h).2.2.symm
                rw [decide_eq_false hq] at qb
                go_wp2_with (first | (go_at_call 23; refine (CW _).mono ?_; rintro e w' ⟨rfl, rfl⟩) | (go_at_call 16; refine (CD _).mono ?_; rintro e w1 ⟨rfl, hb⟩; have hB : Below w.heap.size w w1 := Below.trans (by (repeat first | with_reducible exact Below.refl _ _ | with_reducible assumption | (with_reducible refine Below.setCell ?_ ?_ _; rotate_left; exact (by first | omega | (simp; done) | (simp; omega))) | (with_reducible refine Below.alloc ?_ ?_ _; rotate_left; exact (by first | omega | (simp; done) | (simp; omega))) | with_reducible refine Below.drew ?_ | with_reducible refine Below_drewN ?_ _)) (hb.mono (by first | omega | (simp; done) | (simp; omega))); obtain ⟨hc, hf⟩ := bcell hb; have hs := hb.size; clear hb; (try simp only [World.size_alloc, World.size_setCell] at hc hf); (try simp only [World.size_alloc, World.size_setCell] at hs); (try have hs' := Nat.lt_of_succ_le hs); (try have hs0 : w.heap.size < w1.heap.size := by omega); (try have hs1 : w.heap.size + 1 < w1.heap.size := by omega); (try have hs2 : w.heap.size + 1 + 1 < w1.heap.size := by omega); (try have hs3 : w.heap.size + 1 + 1 + 1 < w1.heap.size := by omega); (try have iso : (w1.cell? ⟨w.heap.size, 0, none⟩).isSome = true := by (rw [hc _ _ (by first | omega | (simp; done) | (simp; omega))]; (try simp only [isSome_setCell]); first | assumption | go_simp)); (try have iso : (w1.cell? ⟨w.heap.size, 1, none⟩).isSome = true := by (rw [hc _ _ (by first | omega | (simp; done) | (simp; omega))]; (try simp only [isSome_setCell]); first | assumption | go_simp)); (try have iso : (w1.cell? ⟨w.heap.size + 1, 0, none⟩).isSome = true := by (rw [hc _ _ (by first | omega | (simp; done) | (simp; omega))]; (try simp only [isSome_setCell]); first | assumption | go_simp)); (try have iso : (w1.cell? ⟨w.heap.size + 1, 1, none⟩).isSome = true := by (rw [hc _ _ (by first | omega | (simp; done) | (simp; omega))]; (try simp only [isSome_setCell]); first | assumption | go_simp)); (try have iso : (w1.cell? ⟨w.heap.size + 1 + 1, 0, none⟩).isSome = true := by (rw [hc _ _ (by first | omega | (simp; done) | (simp; omega))]; (try simp only [isSome_setCell]); first | assumption | go_simp)); (try have iso : (w1.cell? ⟨w.heap.size + 1 + 1, 1, none⟩).isSome = true := by (rw [hc _ _ (by first | omega | (simp; done) | (simp; omega))]; (try simp only [isSome_setCell]); first | assumption | go_simp))))
                go_ret2
                exact ⟨.inr ⟨hN, _, rfl⟩, by (repeat first | with_reducible exact Below.refl _ _ | with_reducible assumption | (with_reducible refine Below.setCell ?_ ?_ _; rotate_left; exact (by first | omega | (simp; done) | (simp; omega))) | (with_reducible refine Below.alloc ?_ ?_ _; rotate_left; exact (by first | omega | (simp; done) | (simp; omega))) | with_reducible refine Below.drew ?_ | with_reducible refine Below_drewN ?_ _)⟩
            · have er : inR (-(V : Int)) = false := by simp [inR]; omega
              have CW : ∀ W : World, Calls Tryd.prog 23 #[.int .i64 (-(V : Int))] W fun e w' => e = .returned (.bool false) ∧ W = w' := fun W => by have := within_any (-(V : Int)) W; rwa [er] at this
              have hN : ¬isNum (45 :: r) := fun h => hr ⟨(HY.out h).1, (HY.out h).2.1⟩
              go_wp2_with (go_at_call 23; refine (CW _).mono ?_; rintro e w' ⟨rfl, rfl⟩)
              go_ret2
              exact ⟨.inr ⟨hN, _, rfl⟩, by (repeat first | with_reducible exact Below.refl _ _ | with_reducible assumption | (with_reducible refine Below.setCell ?_ ?_ _; rotate_left; exact (by first | omega | (simp; done) | (simp; omega))) | (with_reducible refine Below.alloc ?_ ?_ _; rotate_left; exact (by first | omega | (simp; done) | (simp; omega))) | with_reducible refine Below.drew ?_ | with_reducible refine Below_drewN ?_ _)⟩
      · have hN : ¬isNum (45 :: r) := no_len (body_neg r) hle
        have z : B.size < 1 ∨ 16 < B.size := by omega
        clear hle
        rcases z with z | z
        all_goals go_wp2
        all_goals go_ret2
        all_goals exact ⟨.inr ⟨hN, _, rfl⟩, Below.refl _ _⟩
    · have hx : (c.toNat : Int) ≠ 45 := fun e => hc (UInt8.toNat_inj.1 (by show c.toNat = 45; omega))
      obtain ⟨x, hxe⟩ : ∃ x : Int, (c.toNat : Int) = x := ⟨_, rfl⟩
      rw [hxe] at ix hx
      clear hxe
      have hne : ∀ q, c :: r ≠ 45 :: q := fun q e => by injection e with e; exact hc e
      obtain ⟨l, hl⟩ : ∃ l, c :: r = l := ⟨_, rfl⟩
      rw [hl] at hL h0 hne ⊢
      have hbd : bodyOf l = l := hl ▸ body_pos hc
      clear hl
      go_enter Tryd.func13, Tryd.ntmps13
      go_upto_region 4 with fail
      clear ix h0
      have hz : s.size = l.length := by rw [← hL]; exact Array.length_toList.symm
      by_cases hle : 1 ≤ l.length ∧ l.length ≤ 16
      · obtain ⟨l1, l2⟩ := hle
        have z1 : 1 ≤ s.size := by omega
        have z2 : s.size ≤ 16 := by omega
        go_wp2_with fail
        go_loop [5, 6] (fun sn si => ∃ k : Nat, k ≤ l.length ∧ sn = .int .i64 (rd 0 (l.take k) : Nat) ∧ si = .int .i64 k ∧ ∀ c ∈ l.take k, isDig c) (fun _ si => l.length - (intOf si).toNat)
        case atStart => exact ⟨0, Nat.zero_le _, rfl, rfl, fun c hc => by simp at hc⟩
        case round =>
          obtain ⟨k, hk, rfl, rfl, hd⟩ := hrel
          by_cases hkl : k < l.length
          · have ix := index_any s l hL k hkl
            have RD := rd_take_succ hkl
            have lt := rd_take_lt l k l2 hd
            obtain ⟨V, hV⟩ : ∃ V, rd 0 (l.take k) = V := ⟨_, rfl⟩
            rw [hV] at RD lt
            obtain ⟨cc, hcc⟩ : ∃ cc, l[k] = cc := ⟨_, rfl⟩
            have hmem : cc ∈ l := hcc ▸ List.getElem_mem hkl
            have nx : isDig cc → ∀ c ∈ l.take (k + 1), isDig c := fun h => take_succ_digs hkl hd (by rw [hcc]; exact h)
            rw [hcc] at ix RD
            have c255 : cc.toNat < 256 := cc.toNat_lt
            obtain ⟨x, hxe⟩ : ∃ x : Nat, cc.toNat = x := ⟨_, rfl⟩
            rw [hxe] at ix RD c255
            have hb1 : k < s.size := by omega
            have NX := Lib.hid nx
            have RX := Lib.hid RD
            have HX := Lib.hid hxe
            rw [hV]
            clear nx RD hxe hd hcc hV
            by_cases x1 : x < 48
            · have hN : ¬isNum l := no_dig hbd hmem (by have := HX.out; unfold isDig; omega)
              go_wp2
              go_ret2
              exact ⟨.inr ⟨hN, _, rfl⟩, Below.refl _ _⟩
            · by_cases x2 : 57 < x
              · have hN : ¬isNum l := no_dig hbd hmem (by have := HX.out; unfold isDig; omega)
                go_wp2
                go_ret2
                exact ⟨.inr ⟨hN, _, rfl⟩, Below.refl _ _⟩
              · go_wp2
                go_round
                case rel => exact ⟨k + 1, by omega, by (have := RX.out; congr 1; omega), rfl, NX.out (by have := HX.out; unfold isDig; omega)⟩
                case measure => first | (simp [intOf]; done) | (simp [intOf]; omega)
          · have hkk : k = l.length := by omega
            subst hkk
            rw [List.take_length] at hd ⊢
            have lt : rd 0 l < 10000000000000000 := by have := rd_take_lt l l.length l2 (by rw [List.take_length]; exact hd); rwa [List.take_length] at this
            have hY : isNum l → _ := (fun h => num_pos hne h)
            clear hd
            obtain ⟨V, hV⟩ : ∃ V, rd 0 l = V := ⟨_, rfl⟩
            rw [hV] at hY lt
            rw [hV]
            clear hV
            have HY := Lib.hid hY
            clear hY
            by_cases hr : -1000000000000000 ≤ (V : Int) ∧ (V : Int) ≤ 1000000000000000
            · obtain ⟨r0, r1⟩ := hr
              have er : inR (V : Int) = true := by simp [inR]; omega
              have CW : ∀ W : World, Calls Tryd.prog 23 #[.int .i64 (V : Int)] W fun e w' => e = .returned (.bool true) ∧ W = w' := fun W => by have := within_any (V : Int) W; rwa [er] at this
              have CD : ∀ W : World, Calls Tryd.prog 16 #[.int .i64 (V : Int)] W (Ret (.string ⟨(itoa (V : Int)).toArray⟩) W) := fun W => digits_any (V : Int) W r0 r1
              have qb := qn (itoa (V : Int))
              rw [hL] at qb
              clear qn
              by_cases hq : itoa (V : Int) = l
              · have HQ := Lib.hid hq
                rw [decide_eq_true hq] at qb
                clear hq
                go_wp2_with (first | (go_at_call 23; refine (CW _).mono ?_; rintro e w' ⟨rfl, rfl⟩) | (go_at_call 16; refine (CD _).mono ?_; rintro e w1 ⟨rfl, hb⟩; have hB : Below w.heap.size w w1 := Below.trans (by (repeat first | with_reducible exact Below.refl _ _ | with_reducible assumption | (with_reducible refine Below.setCell ?_ ?_ _; rotate_left; exact (by first | omega | (simp; done) | (simp; omega))) | (with_reducible refine Below.alloc ?_ ?_ _; rotate_left; exact (by first | omega | (simp; done) | (simp; omega))) | with_reducible refine Below.drew ?_ | with_reducible refine Below_drewN ?_ _)) (hb.mono (by first | omega | (simp; done) | (simp; omega))); obtain ⟨hc, hf⟩ := bcell hb; have hs := hb.size; clear hb; (try simp only [World.size_alloc, World.size_setCell] at hc hf); (try simp only [World.size_alloc, World.size_setCell] at hs); (try have hs' := Nat.lt_of_succ_le hs); (try have hs0 : w.heap.size < w1.heap.size := by omega); (try have hs1 : w.heap.size + 1 < w1.heap.size := by omega); (try have hs2 : w.heap.size + 1 + 1 < w1.heap.size := by omega); (try have hs3 : w.heap.size + 1 + 1 + 1 < w1.heap.size := by omega); (try have iso : (w1.cell? ⟨w.heap.size, 0, none⟩).isSome = true := by (rw [hc _ _ (by first | omega | (simp; done) | (simp; omega))]; (try simp only [isSome_setCell]); first | assumption | go_simp)); (try have iso : (w1.cell? ⟨w.heap.size, 1, none⟩).isSome = true := by (rw [hc _ _ (by first | omega | (simp; done) | (simp; omega))]; (try simp only [isSome_setCell]); first | assumption | go_simp)); (try have iso : (w1.cell? ⟨w.heap.size + 1, 0, none⟩).isSome = true := by (rw [hc _ _ (by first | omega | (simp; done) | (simp; omega))]; (try simp only [isSome_setCell]); first | assumption | go_simp)); (try have iso : (w1.cell? ⟨w.heap.size + 1, 1, none⟩).isSome = true := by (rw [hc _ _ (by first | omega | (simp; done) | (simp; omega))]; (try simp only [isSome_setCell]); first | assumption | go_simp)); (try have iso : (w1.cell? ⟨w.heap.size + 1 + 1, 0, none⟩).isSome = true := by (rw [hc _ _ (by first | omega | (simp; done) | (simp; omega))]; (try simp only [isSome_setCell]); first | assumption | go_simp)); (try have iso : (w1.cell? ⟨w.heap.size + 1 + 1, 1, none⟩).isSome = true := by (rw [hc _ _ (by first | omega | (simp; done) | (simp; omega))]; (try simp only [isSome_setCell]); first | assumption | go_simp))))
                go_ret2
                exact ⟨.inl ⟨(V : Int), r0, r1, HQ.out.symm, rfl⟩, by (repeat first | with_reducible exact Below.refl _ _ | with_reducible assumption | (with_reducible refine Below.setCell ?_ ?_ _; rotate_left; exact (by first | omega | (simp; done) | (simp; omega))) | (with_reducible refine Below.alloc ?_ ?_ _; rotate_left; exact (by first | omega | (simp; done) | (simp; omega))) | with_reducible refine Below.drew ?_ | with_reducible refine Below_drewN ?_ _)⟩
              · have hN : ¬isNum l := fun h => hq (HY.out h).2.2.symm
                rw [decide_eq_false hq] at qb
                go_wp2_with (first | (go_at_call 23; refine (CW _).mono ?_; rintro e w' ⟨rfl, rfl⟩) | (go_at_call 16; refine (CD _).mono ?_; rintro e w1 ⟨rfl, hb⟩; have hB : Below w.heap.size w w1 := Below.trans (by (repeat first | with_reducible exact Below.refl _ _ | with_reducible assumption | (with_reducible refine Below.setCell ?_ ?_ _; rotate_left; exact (by first | omega | (simp; done) | (simp; omega))) | (with_reducible refine Below.alloc ?_ ?_ _; rotate_left; exact (by first | omega | (simp; done) | (simp; omega))) | with_reducible refine Below.drew ?_ | with_reducible refine Below_drewN ?_ _)) (hb.mono (by first | omega | (simp; done) | (simp; omega))); obtain ⟨hc, hf⟩ := bcell hb; have hs := hb.size; clear hb; (try simp only [World.size_alloc, World.size_setCell] at hc hf); (try simp only [World.size_alloc, World.size_setCell] at hs); (try have hs' := Nat.lt_of_succ_le hs); (try have hs0 : w.heap.size < w1.heap.size := by omega); (try have hs1 : w.heap.size + 1 < w1.heap.size := by omega); (try have hs2 : w.heap.size + 1 + 1 < w1.heap.size := by omega); (try have hs3 : w.heap.size + 1 + 1 + 1 < w1.heap.size := by omega); (try have iso : (w1.cell? ⟨w.heap.size, 0, none⟩).isSome = true := by (rw [hc _ _ (by first | omega | (simp; done) | (simp; omega))]; (try simp only [isSome_setCell]); first | assumption | go_simp)); (try have iso : (w1.cell? ⟨w.heap.size, 1, none⟩).isSome = true := by (rw [hc _ _ (by first | omega | (simp; done) | (simp; omega))]; (try simp only [isSome_setCell]); first | assumption | go_simp)); (try have iso : (w1.cell? ⟨w.heap.size + 1, 0, none⟩).isSome = true := by (rw [hc _ _ (by first | omega | (simp; done) | (simp; omega))]; (try simp only [isSome_setCell]); first | assumption | go_simp)); (try have iso : (w1.cell? ⟨w.heap.size + 1, 1, none⟩).isSome = true := by (rw [hc _ _ (by first | omega | (simp; done) | (simp; omega))]; (try simp only [isSome_setCell]); first | assumption | go_simp)); (try have iso : (w1.cell? ⟨w.heap.size + 1 + 1, 0, none⟩).isSome = true := by (rw [hc _ _ (by first | omega | (simp; done) | (simp; omega))]; (try simp only [isSome_setCell]); first | assumption | go_simp)); (try have iso : (w1.cell? ⟨w.heap.size + 1 + 1, 1, none⟩).isSome = true := by (rw [hc _ _ (by first | omega | (simp; done) | (simp; omega))]; (try simp only [isSome_setCell]); first | assumption | go_simp))))
                go_ret2
                exact ⟨.inr ⟨hN, _, rfl⟩, by (repeat first | with_reducible exact Below.refl _ _ | with_reducible assumption | (with_reducible refine Below.setCell ?_ ?_ _; rotate_left; exact (by first | omega | (simp; done) | (simp; omega))) | (with_reducible refine Below.alloc ?_ ?_ _; rotate_left; exact (by first | omega | (simp; done) | (simp; omega))) | with_reducible refine Below.drew ?_ | with_reducible refine Below_drewN ?_ _)⟩
            · have er : inR (V : Int) = false := by simp [inR]; omega
              have CW : ∀ W : World, Calls Tryd.prog 23 #[.int .i64 (V : Int)] W fun e w' => e = .returned (.bool false) ∧ W = w' := fun W => by have := within_any (V : Int) W; rwa [er] at this
              have hN : ¬isNum l := fun h => hr ⟨(HY.out h).1, (HY.out h).2.1⟩
              go_wp2_with (go_at_call 23; refine (CW _).mono ?_; rintro e w' ⟨rfl, rfl⟩)
              go_ret2
              exact ⟨.inr ⟨hN, _, rfl⟩, by (repeat first | with_reducible exact Below.refl _ _ | with_reducible assumption | (with_reducible refine Below.setCell ?_ ?_ _; rotate_left; exact (by first | omega | (simp; done) | (simp; omega))) | (with_reducible refine Below.alloc ?_ ?_ _; rotate_left; exact (by first | omega | (simp; done) | (simp; omega))) | with_reducible refine Below.drew ?_ | with_reducible refine Below_drewN ?_ _)⟩
      · have hN : ¬isNum l := no_len hbd hle
        have z : s.size < 1 ∨ 16 < s.size := by omega
        clear hle
        rcases z with z | z
        all_goals go_wp2
        all_goals go_ret2
        all_goals exact ⟨.inr ⟨hN, _, rfl⟩, Below.refl _ _⟩

end Go.Proofs.YtgfajfepmflfhaaDoor
