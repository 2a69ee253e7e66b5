import Derived.Test.YtnplgnennmhkeaaJAA
import Derived.Test.YtnplgnennmhkeaaJAD
import Derived.Test.YtnplgnennmhkeaaJAM
import Derived.Test.YtnplgnennmhkeaaJAS
import Derived.ProofKit
import Derived.OpenShut
import Derived.Lib.SmallJoins
import Derived.Deep.Slices
import Derived.Carry
import Derived.Test.YtnplgnennmhkeaaRows
import Derived.MakeChecks
section
/- The law ControlParts: its walk, over this seat's translation (written by mk_ctl.py). -/
namespace Go.Proofs.Ytnplgnennmhkeaa
set_option linter.unusedVariables false
set_option linter.unusedSimpArgs false
open Go.RowKit Go.Shelf

theorem mul8_in {x n : Int} (n0 : 0 ≤ n) (n1 : n ≤ 8) : ((x * n).tdiv 8 ≤ x ∨ (x * n).tdiv 8 ≤ 0) ∧ (x ≤ (x * n).tdiv 8 ∨ 0 ≤ (x * n).tdiv 8) ∧ (n = 8 → (x * n).tdiv 8 = x) := by
  rcases Int.le_total 0 x with h | h
  · have m0 := Int.mul_nonneg h n0
    have m1 := Int.mul_le_mul_of_nonneg_left n1 h
    rw [Int.tdiv_eq_ediv_of_nonneg m0]
    refine ⟨Or.inl (by omega), Or.inr (by omega), fun e => ?_⟩
    subst e; omega
  · have m0 := Int.mul_nonneg (show 0 ≤ -x by omega) n0
    have m1 := Int.mul_le_mul_of_nonneg_left n1 (show 0 ≤ -x by omega)
    have e : (x * n).tdiv 8 = -((-x * n) / 8) := by
      rw [← Int.tdiv_eq_ediv_of_nonneg m0, Int.neg_mul, Int.neg_tdiv, Int.neg_neg]
    rw [e]
    refine ⟨Or.inr (by omega), Or.inl (by omega), fun e => ?_⟩
    subst e; omega
theorem partT_get {zs : List Int} {n : Int} {k : Nat} {a : Int} (h : (partT zs n)[k]? = some a) : ∃ x, zs[k]? = some x ∧ (a ≤ x ∨ a ≤ 0) ∧ (x ≤ a ∨ 0 ≤ a) ∧ (n = 8 → a = x) := by
  unfold partT at h
  split at h
  · split at h
    · rename_i h1 h2
      obtain ⟨n0, n1⟩ := wthn_iff.1 h2
      unfold partL at h
      rw [List.getElem?_map] at h
      cases hz : zs[k]? with
      | none => rw [hz] at h; cases h
      | some x =>
        rw [hz] at h
        obtain rfl := Option.some.inj h
        exact ⟨x, rfl, mul8_in n0 n1⟩
    · cases h
  · cases h

set_option maxRecDepth 100000 in
set_option maxHeartbeats 8000000 in
theorem parts_walk (A : Option Addr) (len cap : Nat) (zs : List Int) (n : Int) (w : World) (hI : IsT 1 intCells w A len zs) :
    Calls Try.prog 6 #[.slice A len cap, .int .i64 n] w (Ret (.bool true) w) := by
  have HA := Lib.hid (fun W => awake7_any W)
  by_cases hl : 200 < len
  · have d0 : decide ((200 : Int) < (len : Int)) = true := decide_eq_true (by omega)
    clear hI
    go_enter Try.func6, Try.ntmps6
    go_wp2_with fail
    refine (HA.out _).mono ?_
    rintro e w1 ⟨rfl, hb⟩
    go_wp2_with fail
    go_ret
    exact ⟨rfl, by (with_reducible repeat first | exact Below.refl _ _ | assumption | ((first | refine Below.setCell ?_ ?_ _ | refine Below.alloc ?_ ?_ _); rotate_left; exact (by first | omega | (simp; done) | (simp; omega))) | refine Below.drew ?_ | refine Below_drewN ?_ _)⟩
  have d0 : decide ((200 : Int) < (len : Int)) = false := decide_eq_false (by omega)
  have HP := Lib.hid (fun W (hb : Below w.heap.size w W) => part_any A len cap zs n W (hI.below hb) (by omega))
  have HR := Lib.hid (fun W (hb : Below w.heap.size w W) => rpart_any A len cap zs n W (hI.below hb) (by omega))
  have HG := Lib.hid (fun k a h => partT_get (zs := zs) (n := n) (k := k) (a := a) h)
  have I0 := Lib.hid hI
  have hlen := hI.1
  clear hI
  generalize partT zs n = T at *
  generalize partE zs n = E at *
  obtain ⟨L, hL⟩ : ∃ L, T.length = L := ⟨_, rfl⟩
  have HL := Lib.hid hL
  have HP2 : Hid (∀ W, Below w.heap.size w W → Calls Try.prog 21 #[.slice A len cap, .int .i64 n] W (fun e w' => ∃ (A1 : Option Addr) (c : Nat), e = .returned (.tuple #[.slice A1 L c, .int .i64 E]) ∧ IsT 1 intCells w' A1 L T ∧ L ≤ 1000000 ∧ Below W.heap.size W w')) := Lib.hid (fun W hb => by have h := HP.out W hb; unfold IntsAt at h; rw [hL] at h; exact h)
  have HR2 : Hid (∀ W, Below w.heap.size w W → Calls Try.prog 22 #[.slice A len cap, .int .i64 n] W (fun e w' => ∃ (A1 : Option Addr) (c : Nat), e = .returned (.tuple #[.slice A1 L c, .int .i64 E]) ∧ IsT 1 intCells w' A1 L T ∧ L ≤ 1000000 ∧ Below W.heap.size W w')) := Lib.hid (fun W hb => by have h := HR.out W hb; unfold IntsAt at h; rw [hL] at h; exact h)
  have HI : Hid (∀ (A1 A2 : Option Addr) (c1 c2 : Nat) W, L ≤ 1000000 → IsT 1 intCells W A1 L T → IsT 1 intCells W A2 L T → Calls Try.prog 19 #[.slice A1 L c1, .slice A2 L c2] W (Ret (.bool true) W)) := Lib.hid (fun A1 A2 c1 c2 W hl h1 h2 => by have h := ints_any A1 A2 L c1 L c2 T T W h1 h2 (by omega) (by omega); rwa [decide_eq_true rfl] at h)
  have eE : (E != E) = false := by simp
  clear hL HP HR
  go_enter Try.func6, Try.ntmps6
  go_wp2_with fail
  refine (HA.out _).mono ?_
  rintro e w1 ⟨rfl, hb1⟩
  clear HA
  go_wp2_with fail
  refine (HP2.out _ hb1).mono ?_
  rintro e w2 ⟨A1, c1, rfl, i1, hL1, hb⟩
  have hb2 := hb1.trans (hb.mono hb1.size)
  have I1 := Lib.hid i1
  clear i1 hb HP2
  go_wp2_with fail
  refine (HR2.out _ hb2).mono ?_
  rintro e w3 ⟨A2, c2, rfl, i2, -, hb⟩
  have hb3 := hb2.trans (hb.mono hb2.size)
  have I2 := Lib.hid i2
  have I1' := Lib.hid (I1.out.below hb)
  clear i2 hb HR2 I1
  go_wp2_with fail
  refine (HI.out _ _ _ _ _ hL1 I1'.out I2.out).mono ?_
  rintro e w4 ⟨rfl, hb⟩
  have hb4 := hb3.trans (hb.mono hb3.size)
  have I1 := Lib.hid (I1'.out.below hb)
  have s4 := hb4.size
  clear hb I1' I2 HI
  go_wp2_with fail
  go_loopw [9] (fun i wr => ∃ j : Nat, j ≤ L ∧ i = .int .i64 j ∧ Below w4.heap.size w4 wr) (fun i _ => L - (intOf i).toNat)
  case atStart => exact ⟨0, Nat.zero_le _, rfl, Below.refl _ _⟩
  case round =>
    obtain ⟨j, hj, rfl, hB⟩ := hrel
    have sz := hB.size
    by_cases hlt : j < L
    · obtain ⟨z1, hcl1⟩ := I1.out.below hB
      obtain ⟨b1, o1, rfl, hb1', hcl1⟩ := hcl1 (by omega)
      obtain ⟨a, ha⟩ : ∃ x, T[j]? = some x := ⟨_, List.getElem?_eq_getElem (by omega)⟩
      obtain ⟨x, hx, f1, f2, f3⟩ := HG.out j a ha
      have hjl : j < len := by have := (List.getElem?_eq_some_iff.1 hx).1; omega
      obtain ⟨z2, hcl2⟩ := I0.out.below (hb4.trans (hB.mono hb4.size))
      obtain ⟨b2, o2, rfl, hb2', hcl2⟩ := hcl2 (by omega)
      have x0 : wr.cell? ⟨b1, o1 + j, none⟩ = some (.int .i64 a) := by have h := hcl1 j a ha 0 _ rfl; simpa using h
      have y0 : wr.cell? ⟨b2, o2 + j, none⟩ = some (.int .i64 x) := by have h := hcl2 j x hx 0 _ rfl; simpa using h
      have jn : ((j : Int)).toNat = j := by omega
      have j0 : (0 : Int) ≤ j := by omega
      have HZ : Hid (∀ w' : World, Below wr.heap.size wr w' → (Below wr.heap.size wr w' ∧ w'.cell? ⟨b1, o1 + j, none⟩ = some (.int .i64 a) ∧ w'.cell? ⟨b2, o2 + j, none⟩ = some (.int .i64 x))) := Lib.hid (fun w' h => ⟨h, (h.cell (p := ⟨b1, o1 + j, none⟩) hb1').trans x0, (h.cell (p := ⟨b2, o2 + j, none⟩) hb2').trans y0⟩)
      have AX : Hid ((a ≤ x ∨ a ≤ 0) ∧ (x ≤ a ∨ 0 ≤ a) ∧ (n = 8 → a = x)) := Lib.hid ⟨f1, f2, f3⟩
      clear hcl1 hcl2 hx ha z1 z2 f1 f2 f3 HG I0 I1 HL
      by_cases k1 : x < a
      · have AX' := AX.out
        have d0 : decide (x < a) = true := decide_eq_true k1
        have d1 : decide (0 < a) = false := decide_eq_false (by omega)
        have d2 : decide (a < x) = false := decide_eq_false (by omega)
        have d3 : (n == 8) = false := by rw [beq_eq_false_iff_ne]; intro h; have := AX'.2.2 h; omega
        clear k1 AX AX' HZ
        go_wp2_with fail
        go_quiet (fail)
        go_wp2_with fail
        go_roundw
        case rel => exact ⟨j + 1, by omega, by go_num, by (with_reducible repeat first | exact Below.refl _ _ | assumption | ((first | refine Below.setCell ?_ ?_ _ | refine Below.alloc ?_ ?_ _); rotate_left; exact (by first | omega | (simp; done) | (simp; omega))) | refine Below.drew ?_ | refine Below_drewN ?_ _)⟩
        case measure => simp [intOf]; omega
      · by_cases k2 : a < x
        · have AX' := AX.out
          have d0 : decide (x < a) = false := decide_eq_false k1
          have d1 : decide (a < x) = true := decide_eq_true k2
          have d2 : decide (a < 0) = false := decide_eq_false (by omega)
          have d3 : (n == 8) = false := by rw [beq_eq_false_iff_ne]; intro h; have := AX'.2.2 h; omega
          clear k1 k2 AX AX' HZ
          go_wp2_with fail
          go_quiet (fail)
          go_wp2_with fail
          go_roundw
          case rel => exact ⟨j + 1, by omega, by go_num, by (with_reducible repeat first | exact Below.refl _ _ | assumption | ((first | refine Below.setCell ?_ ?_ _ | refine Below.alloc ?_ ?_ _); rotate_left; exact (by first | omega | (simp; done) | (simp; omega))) | refine Below.drew ?_ | refine Below_drewN ?_ _)⟩
          case measure => simp [intOf]; omega
        · have AX' := AX.out
          have hax : (a != x) = false := by simp; omega
          cases hn8 : (n == 8)
          · have d0 : decide (x < a) = false := decide_eq_false k1
            have d1 : decide (a < x) = false := decide_eq_false k2
            clear k1 k2 AX AX' HZ
            go_wp2_with fail
            go_quiet (fail)
            go_wp2_with fail
            go_roundw
            case rel => exact ⟨j + 1, by omega, by go_num, by (with_reducible repeat first | exact Below.refl _ _ | assumption | ((first | refine Below.setCell ?_ ?_ _ | refine Below.alloc ?_ ?_ _); rotate_left; exact (by first | omega | (simp; done) | (simp; omega))) | refine Below.drew ?_ | refine Below_drewN ?_ _)⟩
            case measure => simp [intOf]; omega
          · have d0 : decide (x < a) = false := decide_eq_false k1
            have d1 : decide (a < x) = false := decide_eq_false k2
            clear k1 k2 AX AX' HZ
            go_wp2_with fail
            go_quiet (fail)
            go_wp2_with fail
            go_roundw
            case rel => exact ⟨j + 1, by omega, by go_num, by (with_reducible repeat first | exact Below.refl _ _ | assumption | ((first | refine Below.setCell ?_ ?_ _ | refine Below.alloc ?_ ?_ _); rotate_left; exact (by first | omega | (simp; done) | (simp; omega))) | refine Below.drew ?_ | refine Below_drewN ?_ _)⟩
            case measure => simp [intOf]; omega
    · obtain rfl : j = L := by omega
      go_wp2_with fail
      go_ret
      exact ⟨rfl, hb4.trans (hB.mono hb4.size)⟩

end Go.Proofs.Ytnplgnennmhkeaa
end
section
/- The frame of the laws over spans: how an argument that is a span or a Pair is opened and shut, over this seat's translation. -/
namespace Go.Proofs.Ytnplgnennmhkeaa
set_option linter.unusedVariables false
set_option linter.unusedSimpArgs false
set_option maxRecDepth 100000
open Go.ChangeShapes Go.WideShapes Go.ChangeAt Go.RowKit Go.Joins

theorem own : ownKnob Try.prog.godebug = none := by kernel_rfl
section
variable {H : Type} {enc : TypeId × Value → H}

end
end Go.Proofs.Ytnplgnennmhkeaa
end
section
/- The frame of the laws over pairs: how an argument that is a list of items of n cells is opened, over this seat's translation. -/
namespace Go.Proofs.Ytnplgnennmhkeaa
set_option linter.unusedVariables false
set_option linter.unusedSimpArgs false
set_option maxRecDepth 100000
open Go.ChangeShapes Go.WideShapes Go.ChangeAt Go.RowKit Go.Joins Go.Deep

section
variable {H : Type} {enc : TypeId × Value → H}

/-- A list that reads is a list of items, where each item that reads is one. -/
theorem open_isT {α : Type} {E : α → List Value} {n : Nat} (h0 : ∀ x, (E x).length = n) {t e : TypeId} {W : World} {b0 : Nat} {r : Reach} {v : Value} {d : DataW H} {p : List MemPlace}
    (ht : Try.prog.underlying t = some (.slice e)) (hc : Try.prog.cellsOf e = n) (hn : 0 < n)
    (dec : ∀ (fuel : Nat) (cs : List Value) (y : DataW H × List MemPlace), DataW.trod enc Try.prog W 0 (fun _ => true) true fuel e cs = some y → ∃ x : α, cs = E x)
    (hv : Value.okWide Try.prog W r b0 t v) (h : DataW.Trod enc Try.prog W 0 (fun _ => true) true t v d p) :
    ∃ (A : Option Addr) (len cap : Nat) (zs : List α), v = .slice A len cap ∧ IsT n E W A len zs ∧ len ≤ maxLen ∧ len ≤ cap ∧ cap ≤ maxLen := by
  obtain ⟨a, len, cap, rfl⟩ := okWide_slice ht hv
  obtain ⟨fuel, hf⟩ := h
  rcases open_slice ht hf with ⟨hcs, hx⟩ | ⟨a', len', cap', m, k, D, Pl, hcs, hb, hl, hm, hmm, hx, hi⟩
  · have hcs : [Value.slice a len cap] = [Value.slice none 0 0] := hcs
    injection hcs with hcs _
    injection hcs with e1 e2 e3
    subst e1 e2 e3
    exact ⟨_, _, _, [], rfl, IsT.nil _ _ _ _, Nat.zero_le _, Nat.zero_le _, Nat.zero_le _⟩
  · have hcs : [Value.slice a len cap] = [Value.slice (some a') len' cap'] := hcs
    injection hcs with hcs _
    injection hcs with e1 e2 e3
    subst e1 e2 e3
    simp only [if_true] at hmm
    subst hmm
    have each : ∀ i, i < len → ∃ x : α, ∀ j, j < n → W.cell? (a'.add (i * n + j)) = (E x)[j]? := fun i hil => by
      obtain ⟨cs', h1, h2⟩ := hi i (by omega)
      obtain ⟨x, rfl⟩ := dec _ _ _ h2
      rw [hc] at h1
      obtain ⟨_, _, hcell⟩ := World.cells?_some h1
      refine ⟨x, fun j hj => ?_⟩
      have := hcell j hj
      rwa [add_add] at this
    by_cases hz : len = 0
    · subst hz
      exact ⟨_, _, _, [], rfl, IsT.nil _ _ _ _, Nat.zero_le _, Nat.zero_le _, hm⟩
    · obtain ⟨x0, _⟩ := each 0 (by omega)
      haveI : Inhabited α := ⟨x0⟩
      obtain ⟨z, hz'⟩ := choose_lt each
      refine ⟨_, _, _, (List.range len).map z, rfl, ⟨by simp, fun _ => ?_⟩, Nat.le_trans hl hm, hl, hm⟩
      have c0 := hz' 0 (by omega) 0 hn
      obtain ⟨v0, hv0⟩ : ∃ v0, (E (z 0))[0]? = some v0 := ⟨_, List.getElem?_eq_getElem (by rw [h0]; exact hn)⟩
      rw [hv0] at c0
      have hlt := World.block_lt_of_cell? W _ c0
      have hsp := World.cell?_spot c0
      obtain ⟨b, off, spot⟩ := a'
      have hspot : spot = none := by simpa [Addr.add] using hsp
      subst hspot
      rw [block_add] at hlt
      refine ⟨b, off, rfl, hlt, fun j x hx i v hv => ?_⟩
      have hj : j < len := by
        have := (List.getElem?_eq_some_iff.1 hx).1
        simpa using this
      have hx' : x = z j := by
        rw [List.getElem?_map, List.getElem?_range hj] at hx
        simpa using hx.symm
      subst hx'
      have hin : i < n := by
        have := (List.getElem?_eq_some_iff.1 hv).1
        rwa [h0] at this
      have := hz' j hj i hin
      rw [add_plain, hv] at this
      rw [← this]
      congr 2
      omega

end
end Go.Proofs.Ytnplgnennmhkeaa
end
section
/- The frame of the laws over machines: how arguments that are a machine, a list of faults, a list of spans are opened and shut, over this seat's translation (written by mk_opn.py). -/
namespace Go.Proofs.Ytnplgnennmhkeaa
set_option linter.unusedVariables false
set_option linter.unusedSimpArgs false
set_option maxRecDepth 100000
open Go.ChangeShapes Go.WideShapes Go.ChangeAt Go.RowKit Go.Joins Go.Deep

section
variable {H : Type} {enc : TypeId × Value → H}

end
end Go.Proofs.Ytnplgnennmhkeaa
end
section
/- The frame of the laws of layer 7: how their arguments are opened and shut, over this seat's translation (written by mk_op7.py). -/
namespace Go.Proofs.Ytnplgnennmhkeaa
set_option linter.unusedVariables false
set_option linter.unusedSimpArgs false
set_option maxRecDepth 100000
open Go.ChangeShapes Go.WideShapes Go.ChangeAt Go.RowKit Go.Joins Go.Deep

section
variable {H : Type} {enc : TypeId × Value → H}

theorem dec_intI {W : World} {base : Nat} {spare : Nat → Bool} {held : Bool} (fuel : Nat) (cs : List Value) (y : DataW H × List MemPlace)
    (h : DataW.trod enc Try.prog W base spare held fuel 3 cs = some y) : ∃ x : Int, cs = intCells x := by
  obtain ⟨a, e, _, _⟩ := DataW.trod_int Try.underlying3 h
  exact ⟨a, e⟩

theorem open_ints {W : World} {b0 : Nat} {r : Reach} {v : Value} {d : DataW H} {p : List MemPlace}
    (hv : Value.okWide Try.prog W r b0 56 v) (h : DataW.Trod enc Try.prog W 0 (fun _ => true) true 56 v d p) :
    ∃ (A : Option Addr) (len cap : Nat) (zs : List Int), v = .slice A len cap ∧ IsT 1 intCells W A len zs ∧ len ≤ maxLen ∧ len ≤ cap ∧ cap ≤ maxLen :=
  open_isT (n := 1) (E := intCells) (fun _ => rfl) Try.underlying56 (by kernel_rfl) (by decide) dec_intI hv h
theorem shut_ints {W W' : World} {v : Value} {d : DataW H} {p : List MemPlace} (h : DataW.Trod enc Try.prog W 0 (fun _ => true) true 56 v d p) (hb : Below W.heap.size W W') (hlt : ∀ x ∈ p, x.block < W.heap.size) :
    DataW.Trod enc Try.prog W' 0 (fun b => decide (b < W.heap.size)) true 56 v d p :=
  Below.trod (by kernel_rfl) (by kernel_rfl) (of_decide_eq_true (by kernel_rfl)) h hb hlt

end

section
variable {H : Type} {enc : TypeId × Value → H} {P : Program} {w : World} {base : Nat} {spare : Nat → Bool} {held : Bool}
end
end Go.Proofs.Ytnplgnennmhkeaa
end
section
/- Proved: for every list of whole numbers and every number the law ControlParts returns true (Part is that of the document, is never larger than the wish, and with 8 it is the wish), and the arguments read afterwards as before; no conditions. -/
namespace Go.Proofs.Ytnplgnennmhkeaa.lawControlParts
set_option linter.unusedVariables false
set_option linter.unusedSimpArgs false
open Go.ChangeShapes Go.WideShapes Go.ChangeAt Go.RowKit Go.Joins

set_option maxRecDepth 100000 in
theorem lifted (os : Os) (started : os.Started) (H : Type) (enc : TypeId × Value → H) :
    ReturnsInHanded {} Try.checked os 6 .any (Rows.controlPartsSpec.pre6 enc Try.prog Try.f6 Rows.controlPartsRow.domain false) (Rows.controlPartsSpec.post enc Try.prog Try.f6 false true false false) := by
  refine returnsInHanded_of_change (C := Try.checked) own started (by kernel_rfl) Try.func6
    (ChangeSpec.witness6 (enc := enc) (C := Try.checked) false ⟨#[], #[.slice none 0 0, .int .i64 0], []⟩ 8 (by kernel_rfl) (by kernel_rfl) (by kernel_rfl) (by kernel_rfl)) ?_
  intro W base args ds gs before hval0 hW _ _
  have hval : ∀ (j : Nat) t v, Try.f6.params[j]? = some t → args[j]? = some v → Value.okWide Try.prog W .any base t v := hval0
  have hW' := hW
  obtain ⟨p, q, hA0, hV, rfl, _, _⟩ := hW
  have hA : DataW.TrodAll enc Try.prog W 0 (fun _ => true) true Try.f6.params.toList args.toList ds p := hA0
  rw [Try.params6] at hA hval
  obtain ⟨v0, v1, d0, d1, p0, p1, rfl, rfl, rfl, h0, h1⟩ := trodAll_two hA
  obtain ⟨rfl, rfl⟩ := trodVars_none hV
  obtain ⟨A0, n0, c0, z0, rfl, hI0, hx0, hy0, hz0⟩ := open_ints (hval 0 56 v0 rfl rfl) h0
  obtain ⟨g1, rfl, rfl, rfl, wg1⟩ := open_int Try.underlying3 (hval 1 3 v1 rfl rfl) h1
  clear hA0 hval0
  simp only [List.append_nil] at hW'
  refine (parts_walk A0 n0 c0 z0 g1 W hI0).mono fun e W' ⟨he, hb⟩ => ?_
  subst he
  have hlt0 : ∀ x ∈ p0, x.block < W.heap.size := fun x hx => by simpa using hW'.lt x (by simp [hx])
  have hT := trodAll_mk2 (shut_ints h0 hb hlt0) (shut_int (enc := enc) (w := W') (base := 0) (spare := fun b => decide (b < W.heap.size)) (held := true) Try.underlying3 wg1)
  simp only [List.append_nil] at hT
  exact ⟨_, rfl, _, _, _, [], p0, [], hW', trodAll_mk1 (shut_bool Try.underlying4 true), hT, rfl, hb.frame _, fun h => by cases h⟩

theorem holds : Rows.ControlPartsSaid :=
  OpenClaim.holds_of_wide 6 Try.f6 rfl rfl rfl rfl rfl rfl rfl ⟨rfl, rfl, rfl, rfl, rfl⟩ rfl rfl rfl rfl rfl (by kernel_rfl) Try.func6 (by kernel_rfl)
    (of_decide_eq_true (by kernel_rfl)) (by unfold Func.isWrapper; rw [if_neg (of_decide_eq_false (by kernel_rfl))]; exact ⟨rfl, rfl⟩)
    (fun os started H enc _ => lifted os started H enc)
#print axioms holds

end Go.Proofs.Ytnplgnennmhkeaa.lawControlParts
end
