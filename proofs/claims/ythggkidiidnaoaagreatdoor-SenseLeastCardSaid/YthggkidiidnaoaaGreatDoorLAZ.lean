import Derived.Test.YthggkidiidnaoaaGreatDoorLAQ
import Derived.Test.YthggkidiidnaoaaGreatDoorLAS
import Derived.Test.YthggkidiidnaoaaGreatDoorLAX
import Derived.Test.YthggkidiidnaoaaGreatDoorLAY
import Derived.LoopIn
namespace Go.Proofs.YthggkidiidnaoaaGreatDoor
set_option linter.unusedVariables false
set_option linter.unusedSimpArgs false
section
open Go.RowKit Go.Shelf
def candE (M : MachD) (C : CurD) (zs : List SpanD) : Int := if explB M C zs = true then 0 else 1
theorem filter_snoc {β : Type} (f : Nat → Option β) (j : Nat) : (List.range (j + 1)).filterMap f = (List.range j).filterMap f ++ (match f j with | some x => [x] | none => []) := by
  rw [List.range_succ, List.filterMap_append]
  cases h : f j <;> simp [h]
end
section
open Go.RowKit Go.Shelf
attribute [local go_sem] Oper.semAt_some
def agF (zs : List SpanD) (cur : Int) (k : Nat) : Option Int := if cont (zs.getD k ⟨0, 0⟩).lo (zs.getD k ⟨0, 0⟩).hi cur = true then some (k : Int) else none
def agL (zs : List SpanD) (cur : Int) : List Int := (List.range zs.length).filterMap (agF zs cur)
theorem agUp_len (f : Nat → Option Int) : ∀ k, ((List.range k).filterMap f).length ≤ k
  | 0 => by simp
  | k + 1 => by
    rw [filter_snoc, List.length_append]
    have := agUp_len f k
    cases f k <;> simp <;> omega
theorem agUp_mono (f : Nat → Option Int) {j k : Nat} (h : j ≤ k) : ((List.range j).filterMap f).length ≤ ((List.range k).filterMap f).length := by
  induction k with
  | zero => obtain rfl : j = 0 := by omega
            exact Nat.le_refl _
  | succ k ih =>
    by_cases e : j = k + 1
    · rw [e]; exact Nat.le_refl _
    · rw [filter_snoc, List.length_append]
      have := ih (by omega)
      omega
set_option maxRecDepth 100000 in
set_option maxHeartbeats 4000000 in
theorem agreeing1_any (l b1 b2 n cf : Nat) (F : Option Addr) (zs : List SpanD) (cur : Int) (hn : n ≤ 1000) (J Jx : List Int → World → Prop) (w : World)
    (hJ : ∀ pre W W', J pre W → Below W.heap.size W W' → J pre W')
    (hY : ∀ pre x W, J pre W → pre.length < (agL zs cur).length → YieldAt Fence.wide (7 - 1) Tryz.prog l #[.int .i64 x] W fun e W' =>
      (e = .returned (.bool true) ∧ J (pre ++ [x]) W' ∧ Below w.heap.size W W') ∨ (e = .returned (.bool false) ∧ Jx (pre ++ [x]) W'))
    (W : World) (hw : Below w.heap.size w W) (hF : IsT 2 SpanD.cells w F n zs) (h1 : w.cell? ⟨b1, 0, none⟩ = some (.slice F n cf)) (h2 : w.cell? ⟨b2, 0, none⟩ = some (.int .i64 cur)) (l1 : b1 < w.heap.size) (l2 : b2 < w.heap.size) (h0 : J [] W) :
    CallsIn Fence.wide 7 Tryz.prog 67 #[.func (.yield l) #[] #[], .pointer (some ⟨b1, 0, none⟩), .pointer (some ⟨b2, 0, none⟩)] W fun e W' => (∃ v, e = .returned v) ∧
      ((∃ ys, ys = agL zs cur ∧ J ys W') ∨ (∃ pre, True ∧ Jx pre W')) := by
  have HJ := Lib.hid hJ
  have HI := Lib.hid hF
  have hzl := hF.1
  have HYY := Lib.hid hY
  have HA : Hid (agL zs cur = (List.range n).filterMap (agF zs cur)) := Lib.hid (by unfold agL; rw [hzl])
  have HM : Hid (∀ k, k < n → agF zs cur k = some (k : Int) → ((List.range k).filterMap (agF zs cur)).length < (agL zs cur).length) := Lib.hid (fun k hk e => by
    have h1 := agUp_mono (agF zs cur) (j := k + 1) (k := n) hk
    rw [filter_snoc, e, List.length_append] at h1
    unfold agL
    rw [hzl]
    simp at h1
    omega)
  generalize agL zs cur = SL at *
  clear hJ hF hY
  have h88 : Fence.wide.fn 68 := trivial
  have c1 := (hw.cell (p := ⟨b1, 0, none⟩) l1).trans h1
  refine callsIn_of_wp Tryz.func67 rfl trivial ?_ rfl
  simp only [Tryz.ntmps67, List.size_toArray, List.length_cons, List.length_nil, Nat.reduceAdd, Nat.reduceSub, Array.replicate_succ, Array.replicate_zero, List.push_toArray, List.append_toArray, List.nil_append, List.cons_append]
  gi_wp2
  gi_loopw [8] (fun i wx => ∃ k : Nat, k ≤ n ∧ i = .int .i64 k ∧ J ((List.range k).filterMap (agF zs cur)) wx ∧ Below w.heap.size w wx) (fun i _ => n - (intOf i).toNat)
  case atStart => exact ⟨0, Nat.zero_le _, rfl, h0, hw⟩
  case round =>
    obtain ⟨k, hk, rfl, hJs, hB⟩ := hrel
    have sB := hB.size
    by_cases hlt : k < n
    · obtain ⟨-, hcf⟩ := HI.out.below hB
      obtain ⟨bf, of, rfl, hbf, hcg⟩ := hcf (by omega)
      obtain ⟨s, hs⟩ : ∃ s, zs[k]? = some s := ⟨_, List.getElem?_eq_getElem (by omega)⟩
      have e0 : wr.cell? ⟨bf, of + k * 2, none⟩ = some (.int .i64 s.lo) := by have h := hcg k s hs 0 _ rfl; simpa using h
      have e1 : wr.cell? ⟨bf, of + k * 2 + 1, none⟩ = some (.int .i64 s.hi) := by have h := hcg k s hs 1 _ rfl; simpa using h
      have l2' : b2 < wr.heap.size := by omega
      have d2 := (hB.cell (p := ⟨b2, 0, none⟩) l2).trans h2
      have HX := Lib.hid (filter_snoc (agF zs cur) k)
      have HF : Hid (agF zs cur k = if cont s.lo s.hi cur = true then some (k : Int) else none) := Lib.hid (by unfold agF; rw [List.getD_eq_getElem?_getD, hs, Option.getD_some])
      have HC := Lib.hid (fun W => contains_any s.lo s.hi cur W)
      have HMk := Lib.hid (HM.out k hlt)
      obtain ⟨xl, xh⟩ := s
      dsimp only at e0 e1 HF HC
      clear hcf hcg hs c1 h1 h2
      cases hc : cont xl xh cur
      · rw [hc] at HC
        have HN : Hid ((List.range (k + 1)).filterMap (agF zs cur) = (List.range k).filterMap (agF zs cur)) := Lib.hid (by rw [HX.out, HF.out, hc]; simp)
        clear hc HX HF HMk
        gi_wp2_with (gi_at_call 68; refine (callsIn_wide.2 (HC.out _)).mono ?_; rintro e w1 ⟨rfl, hb⟩; have hb' : Below wr.heap.size wr w1 := Below.trans (by (repeat first | with_reducible exact Below.refl _ _ | (with_reducible refine Below.alloc ?_ ?_ _; rotate_left; exact (by omega)))) (hb.mono (by ((try simp only [World.size_alloc, World.size_setCell, size_drew, size_drewN]); omega))); have hJ1 := HJ.out _ _ _ hJs hb'; have hs1 := hb'.size; clear hb)
        refine ⟨fun _ h => (by cases h), ?_⟩
        gi_wp2
        go_roundw
        case rel => exact ⟨k + 1, by omega, by go_num, by rw [HN.out]; exact hJ1, hB.trans (hb'.mono hB.size)⟩
        case measure => simp [intOf]; omega
      · rw [hc] at HC
        have HN : Hid ((List.range (k + 1)).filterMap (agF zs cur) = (List.range k).filterMap (agF zs cur) ++ [(k : Int)]) := Lib.hid (by rw [HX.out, HF.out, hc]; simp)
        have hm := HMk.out (by rw [HF.out, hc]; rfl)
        have HYk := Lib.hid (fun W1 (hJ1 : J ((List.range k).filterMap (agF zs cur)) W1) => HYY.out _ (k : Int) W1 hJ1 hm)
        clear hc HX HF HMk hm
        gi_wp2_with (gi_at_call 68; refine (callsIn_wide.2 (HC.out _)).mono ?_; rintro e w1 ⟨rfl, hb⟩; have hb' : Below wr.heap.size wr w1 := Below.trans (by (repeat first | with_reducible exact Below.refl _ _ | (with_reducible refine Below.alloc ?_ ?_ _; rotate_left; exact (by omega)))) (hb.mono (by ((try simp only [World.size_alloc, World.size_setCell, size_drew, size_drewN]); omega))); have hJ1 := HJ.out _ _ _ hJs hb'; have hs1 := hb'.size; clear hb; obtain ⟨fn, tmps, assign, body, hy, hR⟩ := HYk.out w1 hJ1)
        refine hR.mono ?_
        clear hR hy
        rintro e W3 (⟨rfl, hJ3, hk3⟩ | ⟨rfl, hJx3⟩)
        · gi_wp2
          go_roundw
          case rel => exact ⟨k + 1, by omega, by go_num, by rw [HN.out]; exact hJ3, (hB.trans (hb'.mono hB.size)).trans hk3⟩
          case measure => simp [intOf]; omega
        · gi_wp2
          refine bodyPost_ret (results_none rfl _ _ _) rfl ?_
          exact ⟨⟨_, rfl⟩, .inr ⟨_, trivial, hJx3⟩⟩
    · obtain rfl : k = n := by omega
      gi_wp2
      go_end0
      exact ⟨⟨_, rfl⟩, .inl ⟨_, HA.out.symm, hJs⟩⟩
end
section
open Go.RowKit Go.Shelf
def AgIt (b1 b2 n cf : Nat) (F : Option Addr) (zs : List SpanD) (cur : Int) (w : World) : Prop :=
  IsT 2 SpanD.cells w F n zs ∧ w.cell? ⟨b1, 0, none⟩ = some (.slice F n cf) ∧ w.cell? ⟨b2, 0, none⟩ = some (.int .i64 cur) ∧ b1 < w.heap.size ∧ b2 < w.heap.size
theorem AgIt.below {b1 b2 n cf : Nat} {F : Option Addr} {zs : List SpanD} {cur : Int} {w w' : World} (h : AgIt b1 b2 n cf F zs cur w) (hb : Below w.heap.size w w') : AgIt b1 b2 n cf F zs cur w' :=
  ⟨h.1.below hb, (hb.cell (p := ⟨b1, 0, none⟩) h.2.2.2.1).trans h.2.1, (hb.cell (p := ⟨b2, 0, none⟩) h.2.2.2.2).trans h.2.2.1, Nat.lt_of_lt_of_le h.2.2.2.1 hb.size, Nat.lt_of_lt_of_le h.2.2.2.2 hb.size⟩
theorem AgIt.collect {b1 b2 n cf : Nat} {F : Option Addr} {zs : List SpanD} {cur : Int} {w : World} (h : AgIt b1 b2 n cf F zs cur w) (hn : n ≤ 1000) :
    Calls Tryz.prog 33 #[.func (.func 67) #[] #[.pointer (some ⟨b1, 0, none⟩), .pointer (some ⟨b2, 0, none⟩)]] w
      fun e w' => ∃ (A : Option Addr) (cap : Nat), e = .returned (.slice A (agL zs cur).length cap) ∧ NewI w.heap.size w' A (agL zs cur).length cap (agL zs cur) ∧ Below w.heap.size w w' :=
  collect_any 67 _ (enters_of Tryz.func67 (by kernel_rfl) rfl) (agL zs cur) (fun _ => True) (by have := agUp_len (agF zs cur) zs.length; have := h.1.1; unfold agL; omega) w
    (fun l J Jx W hW hJa _ hY h0 => agreeing1_any l b1 b2 n cf F zs cur hn J Jx w (fun pre X Y hj hb => hJa pre X Y none hj (grown_of_below hb) (fun r e => by cases e)) hY W hW h.1 h.2.1 h.2.2.1 h.2.2.2.1 h.2.2.2.2 h0)
def agE (M : MachD) (C : CurD) (zs : List SpanD) (cell cur : Int) : Int := if explB M C zs = true then if inB C cell cur = true then 0 else 7 else 1
def agZ (M : MachD) (C : CurD) (zs : List SpanD) (cell cur : Int) : List Int := if explB M C zs = true then if inB C cell cur = true then agL (clL M (bgL M C) zs cell) cur else [] else []
end
end Go.Proofs.YthggkidiidnaoaaGreatDoor
