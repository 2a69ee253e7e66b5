import Derived.Test.YthggkidiidnaoaaGreatDoorKAQ
import Derived.Test.YthggkidiidnaoaaGreatDoorKAR
import Derived.Test.YthggkidiidnaoaaGreatDoorKAX
import Derived.Test.YthggkidiidnaoaaGreatDoorKBE
import Derived.OwnWalkIn
import Derived.TacticsInMore
import Derived.LoopIn
import Derived.Test.YthggkidiidnaoaaGreatDoorRows
import Derived.KernelRfl
import Derived.Laws.StructEq
namespace Go.Proofs.YthggkidiidnaoaaGreatDoor
set_option linter.unusedVariables false
set_option linter.unusedSimpArgs false
section
open Go.RowKit Go.Shelf
def AgIt (b1 b2 n cf : Nat) (F : Option Addr) (zs : List SpanD) (cur : Int) (w : World) : Prop :=
 IsT 2 SpanD.cells w F n zs ∧ w.cell? ⟨b1, 0, none⟩ = some (.slice F n cf) ∧ w.cell? ⟨b2, 0, none⟩ = some (.int .i64 cur) ∧ b1 < w.heap.size ∧ b2 < w.heap.size
theorem AgIt.below {b1 b2 n cf : Nat} {F : Option Addr} {zs : List SpanD} {cur : Int} {w w' : World} (h : AgIt b1 b2 n cf F zs cur w) (hb : Below w.heap.size w w') : AgIt b1 b2 n cf F zs cur w' :=
 ⟨h.1.below hb, (hb.cell (p := ⟨b1, 0, none⟩) h.2.2.2.1).trans h.2.1, (hb.cell (p := ⟨b2, 0, none⟩) h.2.2.2.2).trans h.2.2.1, Nat.lt_of_lt_of_le h.2.2.2.1 hb.size, Nat.lt_of_lt_of_le h.2.2.2.2 hb.size⟩
end
section
open Go.RowKit Go.Shelf
attribute [local go_sem] Oper.semAt_some
def agC (zs : List SpanD) (cur : Int) (k : Nat) : Nat := ((List.range k).filterMap (agF zs cur)).length
theorem agC_no {zs : List SpanD} {cur : Int} {k : Nat} (h : agF zs cur k = none) : agC zs cur (k + 1) = agC zs cur k := by
 unfold agC; rw [filter_snoc, h]; simp
theorem agC_yes {zs : List SpanD} {cur x : Int} {k : Nat} (h : agF zs cur k = some x) : agC zs cur (k + 1) = agC zs cur k + 1 := by
 unfold agC; rw [filter_snoc, h]; simp
theorem agL_at {zs : List SpanD} {cur x : Int} {k : Nat} (hk : k < zs.length) (h : agF zs cur k = some x) : (agL zs cur)[agC zs cur k]? = some x := by
 unfold agL agC
 rw [range_at hk, List.filterMap_append, List.getElem?_append_right (Nat.le_refl _), Nat.sub_self, List.filterMap_cons, h]
 rfl
set_option maxRecDepth 100000 in
set_option maxHeartbeats 4000000 in
theorem agreeing2_any (b1 b2 n cf : Nat) (F : Option Addr) (zs : List SpanD) (cur : Int) (X : List Nat) (w : World) (hn : n ≤ 1000) (hI : IsT 2 SpanD.cells w F n zs) (h1 : w.cell? ⟨b1, 0, none⟩ = some (.slice F n cf)) (h2 : w.cell? ⟨b2, 0, none⟩ = some (.int .i64 cur)) (l1 : b1 < w.heap.size) (l2 : b2 < w.heap.size) (x1 : b1 ∉ X) (x2 : b2 ∉ X) (x3 : ∀ b o, F = some ⟨b, o, none⟩ → 0 < n → b ∉ X) :
  IterAll Tryz.prog 67 #[.pointer (some ⟨b1, 0, none⟩), .pointer (some ⟨b2, 0, none⟩)] (fun x : Int => .int .i64 x) (fun _ k x _ => (agL zs cur)[k]? = some x) X 0 (agL zs cur).length w := by
 intro l J W hw hl hl2 hJ hY h0
 have hzl := hI.1
 have HJ := Lib.hid hJ
 have HY := Lib.hid hY
 have hf2 : ∀ W2, Chg (l :: X) W W2 → IsT 2 SpanD.cells W2 F n zs := fun W2 hc => by
  refine (hI.below hw).keep hc.size fun b o e h0 => ?_
  obtain ⟨b', o', e', h1, h2⟩ := hI.2 h0
  rw [e] at e'; cases e'
  exact hc.block b (Nat.lt_of_lt_of_le h1 hw.size) (fun h => by
   rcases List.mem_cons.1 h with h | h
   ·omega
   ·exact x3 b o e h0 h)
 have HF := Lib.hid hf2
 have hc2 : ∀ W2, Chg (l :: X) W W2 → W2.cell? ⟨b2, 0, none⟩ = some (.int .i64 cur) := fun W2 hc => (World.cell?_of_block (w := W) (w' := W2) (a := ⟨b2, 0, none⟩) (hc.block b2 (Nat.lt_of_lt_of_le l2 hw.size) (fun h => by
   rcases List.mem_cons.1 h with h | h
   ·omega
   ·exact x2 h))).trans ((hw.cell (p := ⟨b2, 0, none⟩) l2).trans h2)
 have HC2 := Lib.hid hc2
 have hJ0 : J [] (agC zs cur 0) W := h0 [] rfl (fun z h => by cases h)
 have c1 := (hw.cell (p := ⟨b1, 0, none⟩) l1).trans h1
 have HA : Hid (∀ k x, k < n → agF zs cur k = some x → (agL zs cur)[agC zs cur k]? = some x) := Lib.hid (fun k x hk e => agL_at (by omega) e)
 have HE : Hid ((agL zs cur).length = agC zs cur n) := Lib.hid (by unfold agL agC; rw [hzl])
 have sW := hw.size
 generalize agL zs cur = SL at *
 clear hJ hY h0 hf2 hc2 hI h1 h2 x1 x2 x3 l1
 have h88 : Fence.wide.fn 68 := trivial
 show CallsIn _ _ _ _ #[.func (.yield l) #[] #[], .pointer (some ⟨b1, 0, none⟩), .pointer (some ⟨b2, 0, none⟩)] W _
 refine callsIn_n (n := 7) ?_
 refine callsIn_of_wp Tryz.func67 rfl trivial ?_ rfl
 simp only [Tryz.ntmps67, List.size_toArray, List.length_cons, List.length_nil, Nat.reduceAdd, Nat.reduceSub, Array.replicate_succ, Array.replicate_zero, List.push_toArray, List.append_toArray, List.nil_append, List.cons_append]
 gi_wp2
 gi_loopw [8] (fun i wx => ∃ k : Nat, k ≤ n ∧ i = .int .i64 k ∧ J [] (agC zs cur k) wx ∧ Chg (l :: X) W wx) (fun i _ => n - (intOf i).toNat)
 case atStart => exact ⟨0, Nat.zero_le _, rfl, hJ0, Chg.refl _ _⟩
 case round =>
  obtain ⟨k, hk, rfl, hJs, hB⟩ := hrel
  have sB := hB.size
  by_cases hlt : k < n
  ·obtain ⟨-, hcf⟩ := HF.out wr hB
   obtain ⟨bf, of, rfl, hbf, hcg⟩ := hcf (by omega)
   obtain ⟨s, hs⟩ : ∃ s, zs[k]? = some s := ⟨_, List.getElem?_eq_getElem (by omega)⟩
   have e0 : wr.cell? ⟨bf, of + k * 2, none⟩ = some (.int .i64 s.lo) := by have h := hcg k s hs 0 _ rfl; simpa using h
   have e1 : wr.cell? ⟨bf, of + k * 2 + 1, none⟩ = some (.int .i64 s.hi) := by have h := hcg k s hs 1 _ rfl; simpa using h
   have l2' : b2 < wr.heap.size := by omega
   have d2 := HC2.out wr hB
   have HFk : Hid (agF zs cur k = if cont s.lo s.hi cur = true then some (k : Int) else none) := Lib.hid (by unfold agF; rw [List.getD_eq_getElem?_getD, hs, Option.getD_some])
   have HC := Lib.hid (fun W => contains_any s.lo s.hi cur W)
   have HAk := Lib.hid (HA.out k (k : Int) hlt)
   obtain ⟨xl, xh⟩ := s
   dsimp only at e0 e1 HFk HC
   clear hcf hcg hs c1
   cases hc : cont xl xh cur
   ·rw [hc] at HC
    have HN : Hid (agC zs cur (k + 1) = agC zs cur k) := Lib.hid (agC_no (by rw [HFk.out, hc]; rfl))
    clear hc HFk HAk
    gi_wp2_with (gi_at_call 68; refine (callsIn_wide.2 (HC.out _)).mono ?_; rintro e w1 ⟨rfl, hb⟩; have hb' : Below wr.heap.size wr w1 := Below.trans (by (with_reducible repeat first | exact Below.refl _ _ | assumption | ((first | refine Below.setCell ?_ ?_ _ | refine Below.alloc ?_ ?_ _); rotate_left; exact (by first | omega | (simp; done) | (simp; omega))) | refine Below.drew ?_ | refine Below_drewN ?_ _)) (hb.mono (by first | omega | ((try simp only [World.size_alloc, World.size_setCell, size_drew, size_drewN]); omega) | (simp; done) | (simp; omega))); have hJ1 := HJ.out _ _ _ _ hJs (Mv.of_chg (Chg.of_below _ hb')); have hs1 := hb'.size; clear hb)
    refine ⟨fun _ h => (by cases h), ?_⟩
    gi_wp2
    go_roundw
    case rel => exact ⟨k + 1, by omega, by go_num, by rw [HN.out]; exact hJ1, hB.trans (Chg.of_below _ hb')⟩
    case measure => simp [intOf]; omega
   ·rw [hc] at HC
    have hx : agF zs cur k = some (k : Int) := by rw [HFk.out, hc]; rfl
    have HN : Hid (agC zs cur (k + 1) = agC zs cur k + 1) := Lib.hid (agC_yes hx)
    have hat := HAk.out hx
    have hml := (List.getElem?_eq_some_iff.1 hat).1
    have HYk := Lib.hid (fun W1 (hJ1 : J [] (agC zs cur k) W1) => HY.out [] _ (k : Int) W1 hml hJ1 hat)
    clear hc HFk HAk hx hat hml
    gi_wp2_with (gi_at_call 68; refine (callsIn_wide.2 (HC.out _)).mono ?_; rintro e w1 ⟨rfl, hb⟩; have hb' : Below wr.heap.size wr w1 := Below.trans (by (with_reducible repeat first | exact Below.refl _ _ | assumption | ((first | refine Below.setCell ?_ ?_ _ | refine Below.alloc ?_ ?_ _); rotate_left; exact (by first | omega | (simp; done) | (simp; omega))) | refine Below.drew ?_ | refine Below_drewN ?_ _)) (hb.mono (by first | omega | ((try simp only [World.size_alloc, World.size_setCell, size_drew, size_drewN]); omega) | (simp; done) | (simp; omega))); have hJ1 := HJ.out _ _ _ _ hJs (Mv.of_chg (Chg.of_below _ hb')); have hs1 := hb'.size; clear hb; obtain ⟨fn, tmps, assign, body, hy, hR⟩ := HYk.out w1 hJ1)
    refine (roundIn_n hR).mono ?_
    clear hR hy
    rintro e W3 ⟨rfl, hJ3, hk3⟩
    gi_wp2
    go_roundw
    case rel => exact ⟨k + 1, by omega, by go_num, by rw [HN.out]; exact hJ3, (hB.trans (Chg.of_below _ hb')).trans hk3⟩
    case measure => simp [intOf]; omega
  ·obtain rfl : k = n := by omega
   gi_wp2
   go_end0
   exact ⟨⟨_, rfl⟩, [], by rw [HE.out]; exact hJs⟩
end
section
set_option autoImplicit false
open Go.RowKit
section
variable {P : Program} {e0 : Cfg} {U : Snaps} {l : Slots} {L : Boxes} {ops : Array Oper} {Q : Exit → Act → World → Prop} {rest : List Oper} {d : Nat} {v : Value}
variable {ty : TypeId} {pos : String} {af : Array Edge} {g : Option (Nat × Bool)} {dd : Option Nat}
end
theorem Chg.mv {X Z : List Nat} {v V W : World} {n0 : Nat} (h : Chg X v V) (hm : Mv n0 Z V W) (hn : v.heap.size ≤ n0) (hz : ∀ z ∈ Z, v.heap.size ≤ z) : Chg X v W :=
 ⟨hm.os.trans h.os, hm.tape.trans h.tape, hm.output.trans h.output, Nat.le_trans h.size hm.size, fun b hb hx => (hm.block b (Nat.lt_of_lt_of_le hb h.size) (fun hz' => by have := hz b hz'; omega) (Or.inl (by omega))).trans (h.block b hb hx)⟩
section
variable {P : Program} {U : Snaps} {l : Slots} {L : Boxes}
theorem retM {n : Nat} {w0 : World} {bs : List Nat} {fn : Func} {R : Ending → World → Prop} {rs : List ResultVar} {vs : List Value} {v : Value} (hr : fn.results = rs.toArray) (h : RT P l L rs vs) (hv : Fin1 vs v) (k : ∀ w, Sta ⟨n, [], w0, bs⟩ U L w → R (.returned v) w) : AQ ⟨n, [], w0, bs⟩ U l L (postM P fn R .ret) := fun a w hf hs => by
 show LeavesInM _ _ _ _ _ _ a.defers _ _
 rw [hf.defers]
 refine ⟨v, ?_, k w hs⟩
 rw [← hv.eq]
 exact results_eq fn a.tmps rs hr vs w (h.run hf hs)
theorem Sta.putD {E : Cfg} {U : Snaps} {L : Boxes} {w : World} {D : Nat} {o o' : Obj} (h : Sta E U L w) (ho : w.heap[D]? = some o) (hc : o.isCells = false) (hm : ∀ es k, o ≠ .map es k) (hD : E.w.heap.size ≤ D) : Sta E [] L (w.putObj D o') := by
 have hch : Chg [D] w (w.putObj D o') := Chg.putObj ho
 refine ⟨⟨hch.os.trans h.chg.os, hch.tape.trans h.chg.tape, hch.output.trans h.chg.output, Nat.le_trans h.chg.size hch.size, fun k hk hn => ?_⟩, fun i b cs hi => ?_, h.apart, fun lo u hu => by cases hu⟩
 ·exact (hch.block k (Nat.lt_of_lt_of_le hk h.chg.size) (fun e => by have := List.mem_singleton.1 e; omega)).trans (h.chg.block k hk hn)
 ·obtain ⟨h1, h2⟩ := h.box i b cs hi
  refine ⟨h1, Nat.lt_of_lt_of_le h2.lt hch.size, fun ds hd k v hk => ?_, fun es k hd => ?_⟩
  ·obtain ⟨g1, g2⟩ := h2.cell ds hd k v hk
   have hne : b ≠ D := fun e => by
    subst e
    obtain ⟨o2, ho2, hc2⟩ := cells_of_cell g1
    rw [ho] at ho2; cases ho2; rw [hc] at hc2; cases hc2
   have e := hch.block b h2.lt (fun e => hne (List.mem_singleton.1 e))
   exact ⟨(World.cell?_of_block (w := w) (w' := w.putObj D o') (a := ⟨b, k, none⟩) e).trans g1, (World.frozen?_of_block (w := w) (w' := w.putObj D o') (a := ⟨b, k, none⟩) e).trans g2⟩
  ·have g := h2.map es k hd
   have hne : b ≠ D := fun e => by
    subst e
    rw [ho] at g; cases g; exact hm _ _ rfl
   exact (hch.block b h2.lt (fun e => hne (List.mem_singleton.1 e))).trans g
theorem retMD {n D : Nat} {w0 : World} {bs : List Nat} {fn : Func} {R : Ending → World → Prop} {rs : List ResultVar} {vs : List Value} {v : Value} (hr : fn.results = rs.toArray) (h : RT P l L rs vs) (hv : Fin1 vs v) (hDl : w0.heap.size ≤ D) (hD : ∀ w, Sta ⟨n, [{ target := .collected D, args := #[] }], w0, bs⟩ U L w → w.heap[D]? = some (.deferred (some [])))
  (hR : ∀ w w', Sta ⟨n, [{ target := .collected D, args := #[] }], w0, bs⟩ U L w → Mv D [] w w' → Chg [D] w w' → R (.returned v) w') : AQ ⟨n, [{ target := .collected D, args := #[] }], w0, bs⟩ U l L (postM P fn R .ret) := fun a w hf hs => by
 show LeavesInM _ _ _ _ _ _ a.defers _ _
 rw [hf.defers]
 refine ⟨by simp, .inl ⟨_, _, rfl, run_takeDeferred (hD w hs), ?_⟩⟩
 refine ⟨v, ?_, hR w _ hs (Mv.putObj (Nat.le_refl _) (hD w hs) rfl) (Chg.putObj (hD w hs))⟩
 rw [← hv.eq]
 exact results_eq fn a.tmps rs hr vs _ (h.run hf (hs.putD (hD w hs) rfl (fun _ _ e => by cases e) hDl))
end
end
section
open Go.RowKit
def OutT {α : Type} (z : Nat) (enc : α → List Value) (w : World) (E : Int) (zs : List α) (e : Ending) (w' : World) : Prop := ∃ A n c, e = .returned (.tuple #[.slice A n c, .int .i64 E]) ∧ NewT z enc w.heap.size w' A n c zs ∧ Below w.heap.size w w'
theorem OutT.nil {α : Type} {z : Nat} {enc : α → List Value} {w w' : World} {E : Int} (hb : Below w.heap.size w w') : OutT z enc w E ([] : List α) (.returned (.tuple #[.slice none 0 0, .int .i64 E])) w' :=
 ⟨none, 0, 0, rfl, ⟨IsT.nil _ _ _ _, fun b o e => (by cases e), Nat.le_refl _, by omega⟩, hb⟩
theorem OutT.ok {α : Type} {z n c : Nat} {enc : α → List Value} {w w' : World} {A : Option Addr} {zs : List α} {E : Int} (h : NewT z enc w.heap.size w' A n c zs) (hb : Below w.heap.size w w') : OutT z enc w E zs (.returned (.tuple #[.slice A n c, .int .i64 E])) w' := ⟨A, n, c, rfl, h, hb⟩
end
end Go.Proofs.YthggkidiidnaoaaGreatDoor
