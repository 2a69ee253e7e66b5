import Derived.Test.YtjikhpdchockcaaDoorJAA
section
/- The specification of package machine: contracts of within, placed, Name, over this seat's translation. -/
namespace Go.Proofs.YtjikhpdchockcaaDoor
set_option linter.unusedVariables false
set_option linter.unusedSimpArgs false
open Go.RowKit

theorem IsT.get {α : Type} {n : Nat} {enc : α → List Value} {w : World} {b o len : Nat} {zs : List α} (h : IsT n enc w (some ⟨b, o, none⟩) len zs) {j : Nat} {x : α} (hx : zs[j]? = some x) {i : Nat} {v : Value} (hv : (enc x)[i]? = some v) : w.cell? ⟨b, o + j * n + i, none⟩ = some v := by
  have hj := (List.getElem?_eq_some_iff.1 hx).1
  obtain ⟨b', o', e, _, hc⟩ := h.2 (by rw [← h.1]; omega)
  injection e with e
  injection e with e1 e2
  subst e1 e2
  exact hc j x hx i v hv

set_option maxHeartbeats 400000 in
theorem rwithin2_any (n a b : Int) (w : World) :
    Calls Tryd.prog 72 #[.int .i64 n, .int .i64 a, .int .i64 b] w fun e w' => e = .returned (.bool (wthn n a b)) ∧ w = w' := by
  go_enter Tryd.func72, Tryd.ntmps72
  go_wp2
  all_goals go_ret
  all_goals (simp [wthn]; try omega)

set_option maxHeartbeats 400000 in
theorem rplaced_any (r z : Int) (w : World) :
    Calls Tryd.prog 73 #[.int .i64 r, .int .i64 z] w fun e w' => e = .returned (.bool (nearB r z 60)) ∧ w = w' := by
  have HE : Hid (nearB r z 60 = (wthn r (-60) 60 && wthn z (-60) 60)) := Lib.hid rfl
  cases h : wthn r (-60) 60
  all_goals go_enter Tryd.func73, Tryd.ntmps73
  all_goals go_wp2_with (go_at_call 72; refine (rwithin2_any _ _ _ _).mono ?_; rintro e w1 ⟨rfl, rfl⟩)
  all_goals go_ret
  all_goals exact ⟨by rw [HE.out, h]; rfl, rfl⟩

theorem nameByte_ways {x : Int} (h0 : 0 ≤ x) (h1 : x < 256) :
    (x < 48 ∧ nameByte x = false) ∨ (48 ≤ x ∧ x ≤ 57 ∧ nameByte x = true) ∨ (57 < x ∧ x < 95 ∧ nameByte x = false) ∨ (x = 95 ∧ nameByte x = true) ∨ (95 < x ∧ x < 97 ∧ nameByte x = false) ∨ (97 ≤ x ∧ x ≤ 122 ∧ nameByte x = true) ∨ (122 < x ∧ nameByte x = false) := by
  have e : nameByte x = true ↔ (97 ≤ x ∧ x ≤ 122) ∨ x = 95 ∨ (48 ≤ x ∧ x ≤ 57) := by simp [nameByte, smallB]
  have f : nameByte x = false ↔ ¬((97 ≤ x ∧ x ≤ 122) ∨ x = 95 ∨ (48 ≤ x ∧ x ≤ 57)) := by rw [← e]; simp
  rw [e, f]
  omega

set_option maxHeartbeats 4000000 in
theorem rname_any (s : ByteArray) (w : World) :
    Calls Tryd.prog 68 #[.string s] w fun e w' => e = .returned (.bool (nameB s.data.toList)) ∧ w = w' := by
  have hz : s.data.toList.length = s.size := Array.length_toList
  cases hL : s.data.toList with
  | nil =>
    rw [hL] at hz
    have h1 : s.size = 0 := hz.symm
    clear hz hL
    go_enter Tryd.func68, Tryd.ntmps68
    go_wp2
    go_ret
    exact ⟨rfl, rfl⟩
  | cons c r =>
    rw [hL] at hz
    have hz1 : s.size = r.length + 1 := by rw [← hz]; rfl
    have ix0 : ∀ W : World, (Instr.index 9 (.string s) (.int .i64 0)).run Tryd.prog W = .ok (.int .u8 (c.toNat : Int)) W := fun W => indexS_any s (c :: r) hL 0 (by simp) W
    have HG : Hid (nameB (c :: r) = (decide (r.length < 16) && (smallB c.toNat && (c :: r).all fun b => nameByte b.toNat))) := Lib.hid rfl
    generalize nameB (c :: r) = G at *
    have hs1 : 1 ≤ s.size := by omega
    have hs0 : ¬((s.size : Int) < 1) := by omega
    by_cases h16 : r.length < 16
    · have hs2 : s.size ≤ 16 := by omega
      have c0 : (0 : Int) ≤ c.toNat := by omega
      by_cases hsm : smallB c.toNat = true
      · have HN : Hid (G = (c :: r).all fun b => nameByte b.toNat) := Lib.hid (by rw [HG.out, decide_eq_true h16, hsm]; simp)
        obtain ⟨s1, s2⟩ : (97 : Int) ≤ c.toNat ∧ (c.toNat : Int) ≤ 122 := by simpa [smallB] using hsm
        obtain ⟨l, hl⟩ : ∃ l, c :: r = l := ⟨_, rfl⟩
        rw [hl] at HN hL hz
        clear HG hl hz1 hsm
        generalize (c.toNat : Int) = ci at *
        have HL := Lib.hid hL
        have HZ := Lib.hid hz
        clear hL hz
        go_enter Tryd.func68, Tryd.ntmps68
        go_wp2_with fail
        clear ix0 s1 s2
        go_loop [3, 4] (fun i _ => ∃ k : Nat, k ≤ s.size ∧ i = .int .i64 k ∧ Hid (((l.drop k).all fun b => nameByte b.toNat) = G)) (fun i _ => s.size - (intOf i).toNat)
        case atStart => exact ⟨0, Nat.zero_le _, rfl, Lib.hid (by rw [HN.out]; rfl)⟩
        case round =>
          obtain ⟨k, hk, rfl, hG⟩ := hrel
          by_cases hlt : k < s.size
          · have hkl : k < l.length := by rw [HZ.out]; exact hlt
            have ix := indexS_any s l HL.out k hkl
            have HS := Lib.hid (show (nameByte l[k].toNat && ((l.drop (k + 1)).all fun b => nameByte b.toNat)) = G from by rw [← hG.out, List.drop_eq_getElem_cons hkl]; rfl)
            have c255 : l[k].toNat < 256 := l[k].toNat_lt
            obtain ⟨x, hxe⟩ : ∃ x : Int, (l[k].toNat : Int) = x := ⟨_, rfl⟩
            rw [hxe] at ix HS
            have hx0 : 0 ≤ x := by omega
            have hx1 : x < 256 := by omega
            clear hkl hxe c255
            rcases nameByte_ways hx0 hx1 with ⟨h1, hnb⟩ | ⟨h1, h2, hnb⟩ | ⟨h1, h2, hnb⟩ | ⟨rfl, hnb⟩ | ⟨h1, h2, hnb⟩ | ⟨h1, h2, hnb⟩ | ⟨h1, hnb⟩
            · rw [hnb] at HS; clear hnb
              have h95 : (x == 95) = false := by rw [beq_eq_false_iff_ne]; omega
              go_wp2_with fail
              go_ret
              exact ⟨by rw [← HS.out]; rfl, rfl⟩
            · rw [hnb] at HS; clear hnb
              have HT : Hid (((l.drop (k + 1)).all fun b => nameByte b.toNat) = G) := Lib.hid (by have h := HS.out; rwa [Bool.true_and] at h)
              have h95 : (x == 95) = false := by rw [beq_eq_false_iff_ne]; omega
              go_wp2_with fail
              all_goals go_round
              all_goals first | exact ⟨k + 1, by omega, by go_num, HT⟩ | (simp [intOf]; omega)
            · rw [hnb] at HS; clear hnb
              have d57 : decide (x ≤ 57) = false := decide_eq_false (by omega)
              have h95 : (x == 95) = false := by rw [beq_eq_false_iff_ne]; omega
              go_wp2_with fail
              go_ret
              exact ⟨by rw [← HS.out]; rfl, rfl⟩
            · rw [hnb] at HS; clear hnb
              have HT : Hid (((l.drop (k + 1)).all fun b => nameByte b.toNat) = G) := Lib.hid (by have h := HS.out; rwa [Bool.true_and] at h)
              go_wp2_with fail
              all_goals go_round
              all_goals first | exact ⟨k + 1, by omega, by go_num, HT⟩ | (simp [intOf]; omega)
            · rw [hnb] at HS; clear hnb
              have d57 : decide (x ≤ 57) = false := decide_eq_false (by omega)
              have h95 : (x == 95) = false := by rw [beq_eq_false_iff_ne]; omega
              go_wp2_with fail
              go_ret
              exact ⟨by rw [← HS.out]; rfl, rfl⟩
            · rw [hnb] at HS; clear hnb
              have HT : Hid (((l.drop (k + 1)).all fun b => nameByte b.toNat) = G) := Lib.hid (by have h := HS.out; rwa [Bool.true_and] at h)
              have h95 : (x == 95) = false := by rw [beq_eq_false_iff_ne]; omega
              go_wp2_with fail
              all_goals go_round
              all_goals first | exact ⟨k + 1, by omega, by go_num, HT⟩ | (simp [intOf]; omega)
            · rw [hnb] at HS; clear hnb
              have d57 : decide (x ≤ 57) = false := decide_eq_false (by omega)
              have d122 : decide (x ≤ 122) = false := decide_eq_false (by omega)
              have h95 : (x == 95) = false := by rw [beq_eq_false_iff_ne]; omega
              go_wp2_with fail
              go_ret
              exact ⟨by rw [← HS.out]; rfl, rfl⟩
          · have HT : Hid (G = true) := Lib.hid (by rw [← hG.out, List.drop_of_length_le (by rw [HZ.out]; omega)]; rfl)
            go_wp2
            go_ret
            exact ⟨by rw [HT.out]; rfl, rfl⟩
      · have hsf : smallB c.toNat = false := by simpa using hsm
        have HN : Hid (G = false) := Lib.hid (by rw [HG.out, hsf]; simp)
        have hw : (c.toNat : Int) < 97 ∨ ((97 : Int) ≤ c.toNat ∧ 122 < (c.toNat : Int)) := by
          simp [smallB] at hsf; omega
        clear hz hz1 hL HG hsm hsf
        generalize (c.toNat : Int) = ci at *
        rcases hw with hw | ⟨hw1, hw2⟩
        all_goals go_enter Tryd.func68, Tryd.ntmps68
        all_goals go_wp2_with fail
        all_goals go_ret
        all_goals exact ⟨by rw [HN.out]; rfl, rfl⟩
    · have hs2 : 16 < s.size := by omega
      have HN : Hid (G = false) := Lib.hid (by rw [HG.out, decide_eq_false h16]; rfl)
      clear hz hz1 hL HG h16
      go_enter Tryd.func68, Tryd.ntmps68
      go_wp2_with fail
      go_ret
      exact ⟨by rw [HN.out]; rfl, rfl⟩

end Go.Proofs.YtjikhpdchockcaaDoor
end
