import Derived.Test.YtapldonpflgnfaaGreatDoorLAK
import Derived.Test.YtapldonpflgnfaaGreatDoorLAQ
import Derived.Test.YtapldonpflgnfaaGreatDoorLAR
import Derived.RangeFuncNested
import Derived.RangeFuncLeaves
import Derived.RangeFuncBound
import Derived.Test.YtapldonpflgnfaaGreatDoorRows
import Derived.KernelRfl
import Derived.Laws.StructEq
import Derived.Handy
namespace Go.Proofs.YtapldonpflgnfaaGreatDoor
set_option linter.unusedVariables false
set_option linter.unusedSimpArgs false
section
set_option autoImplicit false
open Go.RowKit
theorem Chg.trans {X : List Nat} {A B C : World} (h : Chg X A B) (k : Chg X B C) : Chg X A C :=
 ⟨k.os.trans h.os, k.tape.trans h.tape, k.output.trans h.output, Nat.le_trans h.size k.size, fun b hb hx => (k.block b (Nat.lt_of_lt_of_le hb h.size) hx).trans (h.block b hb hx)⟩
theorem Chg.mono {X Y : List Nat} {A B : World} (h : Chg X A B) (hX : ∀ x ∈ X, x ∈ Y) : Chg Y A B :=
 ⟨h.os, h.tape, h.output, h.size, fun b hb hy => h.block b hb (fun hx => hy (hX b hx))⟩
theorem Chg.putObj {W : World} {l : Nat} {o o' : Obj} (h : W.heap[l]? = some o) : Chg [l] W (W.putObj l o') :=
 ⟨rfl, rfl, rfl, by simp [World.putObj], fun b _ hb => World.putObj_heap_other (by simpa using hb)⟩
structure Mv (n0 : Nat) (Z : List Nat) (W W' : World) : Prop where
 os : W'.os = W.os
 tape : W'.tape = W.tape
 output : W'.output = W.output
 size : W.heap.size ≤ W'.heap.size
 block : ∀ b, b < W.heap.size → b ∉ Z → (b < n0 ∨ ∃ o : Obj, W.heap[b]? = some o ∧ o.isCells = true) → W'.heap[b]? = W.heap[b]?
theorem Mv.trans {n0 : Nat} {Z : List Nat} {A B C : World} (h : Mv n0 Z A B) (k : Mv n0 Z B C) : Mv n0 Z A C :=
 ⟨k.os.trans h.os, k.tape.trans h.tape, k.output.trans h.output, Nat.le_trans h.size k.size, fun b hb hz hc => by
  have e := h.block b hb hz hc
  exact (k.block b (Nat.lt_of_lt_of_le hb h.size) hz (hc.imp id (fun ⟨o, ho, hk⟩ => ⟨o, e.trans ho, hk⟩))).trans e⟩
theorem Mv.putObj {n0 l : Nat} {Z : List Nat} {W : World} {o o' : Obj} (hl : n0 ≤ l) (h : W.heap[l]? = some o) (hc : o.isCells = false) : Mv n0 Z W (W.putObj l o') :=
 ⟨rfl, rfl, rfl, by simp [World.putObj], fun b hb _ hk => World.putObj_heap_other (fun e => by
  subst e
  rcases hk with g | ⟨o2, h2, g⟩
  ·omega
  ·rw [h] at h2; cases h2; rw [hc] at g; cases g)⟩
theorem IsT.keep {α : Type} {z n : Nat} {enc : α → List Value} {w w' : World} {A : Option Addr} {zs : List α} (h : IsT z enc w A n zs) (hs : w.heap.size ≤ w'.heap.size) (hk : ∀ b o, A = some ⟨b, o, none⟩ → 0 < n → w'.heap[b]? = w.heap[b]?) : IsT z enc w' A n zs :=
 ⟨h.1, fun h0 => by
  obtain ⟨b, o, e, h1, h2⟩ := h.2 h0
  exact ⟨b, o, e, Nat.lt_of_lt_of_le h1 hs, fun j x hx i v hv => (World.cell?_of_block (w := w) (w' := w') (a := ⟨b, _, none⟩) (hk b o e h0)).trans (h2 j x hx i v hv)⟩⟩
theorem IsT.chg {α : Type} {z n : Nat} {X : List Nat} {enc : α → List Value} {w w' : World} {A : Option Addr} {zs : List α} (h : IsT z enc w A n zs) (hm : Chg X w w') (hz : ∀ b o, A = some ⟨b, o, none⟩ → b ∉ X) : IsT z enc w' A n zs :=
 h.keep hm.size fun b o e h0 => by
  obtain ⟨b', o', e', h1, h2⟩ := h.2 h0
  rw [e] at e'; cases e'
  exact hm.block b h1 (hz b o e)
theorem roundIn_n {n m : Nat} {P : Program} {l : Nat} {f : FuncId} {tmps : Array Value} {assign body : Code} {w : World} {R : Ending → World → Prop} (h : RoundIn Fence.wide n P l f tmps assign body w R) : RoundIn Fence.wide m P l f tmps assign body w R :=
 ⟨h.1, fun c cs _ => h.2 c cs (room_wide _)⟩
end
section
set_option autoImplicit false
open Go.RowKit
def Wide (F : Fence) : Prop := F = Fence.wide ∨ ∃ l, F = Fence.wide.inRound l
theorem Wide.fn {F : Fence} (h : Wide F) (f : FuncId) : F.fn f := by rcases h with rfl | ⟨l, rfl⟩ <;> trivial
theorem Wide.depth {F : Fence} (h : Wide F) : F.depth = none := by rcases h with rfl | ⟨l, rfl⟩ <;> rfl
theorem Wide.calls {F : Fence} (h : Wide F) {n : Nat} {P : Program} {f : FuncId} {args : Array Value} {w : World} {R : Ending → World → Prop} (k : Calls P f args w R) : CallsIn F n P f args w R := by
 rcases h with rfl | ⟨l, rfl⟩
 ·exact callsIn_wide.2 k
 ·exact CallsIn.inRound l (callsIn_wide.2 k)
theorem Wide.rows {F : Fence} (h : Wide F) {n : Nat} {P : Program} {row : String} {args : Array Value} {w : World} {R : Value → World → Prop} (k : Rows P row args w R) : _root_.Go.RowsIn F n P row args w R := by
 have key : _root_.Go.RowsIn Fence.wide n P row args w R := fun c cs _ => by
  obtain ⟨v, w', r, s⟩ := k c cs
  exact ⟨v, w', r, stepsIn_wide.2 s⟩
 rcases h with rfl | ⟨l, rfl⟩
 ·exact key
 ·exact key
theorem Wide.round {F : Fence} (h : Wide F) {n m : Nat} {P : Program} {l : Nat} {f : FuncId} {tmps : Array Value} {assign body : Code} {w : World} {R : Ending → World → Prop} (k : RoundIn Fence.wide n P l f tmps assign body w R) : RoundIn F m P l f tmps assign body w R := by
 have key : RoundIn Fence.wide m P l f tmps assign body w R := roundIn_n k
 rcases h with rfl | ⟨l, rfl⟩
 ·exact key
 ·exact key
section
variable {F : Fence} {P : Program} {e0 : Cfg} {U : Snaps} {l : Slots} {L : Boxes} {ops : Array Oper} {Q : Exit → Act → World → Prop} {rest : List Oper} {d : Nat} {v : Value}
variable {ty : TypeId} {pos : String} {af : Array Edge} {g : Option (Nat × Bool)} {dd : Option Nat} {o : Oper}
end
theorem Sta.cellL {E : Cfg} {U : Snaps} {L : Boxes} {w : World} (h : Sta E U L w) {b k : Nat} (hb : b < E.w.heap.size) (hn : b ∉ E.lent) : w.cell? ⟨b, k, none⟩ = E.w.cell? ⟨b, k, none⟩ := World.cell?_of_block (w := E.w) (w' := w) (a := ⟨b, k, none⟩) (h.chg.block b hb hn)
theorem Fr.marked {n : Nat} {w0 : World} {bs : List Nat} {l : Slots} {a : Act} (h : Fr ⟨n, [], w0, bs⟩ l a) (x : Deferred) : Fr ⟨n, [x], w0, bs⟩ l { a with defers := x :: a.defers } := ⟨h.size, by rw [h.defers], h.slot⟩
def postM (P : Program) (fn : Func) (R : Ending → World → Prop) : Exit → Act → World → Prop
 | .normal, a, w | .ret, a, w => LeavesInM Fence.wide 0 P fn a.tmps R a.defers .returning w
 | _, _, _ => False
theorem postM.up {P : Program} {fn : Func} {R : Ending → World → Prop} : ∀ e a w, postM P fn R e a w → bodyPostM Fence.wide 0 P fn R e a w
 | .normal, _, _, h => h
 | .ret, _, _, h => h
 | .exit _, _, _, h => h.elim
 | .goto _, _, _, h => h.elim
 | .panic _, _, _, h => h.elim
 | .outgrown, _, _, h => h.elim
end
section
set_option autoImplicit false
open Go.RowKit
section
variable {P : Program} {e0 : Cfg} {U : Snaps} {l : Slots} {L : Boxes} {ops : Array Oper} {Q : Exit → Act → World → Prop} {rest : List Oper} {d : Nat} {v : Value}
variable {ty : TypeId} {pos : String} {af : Array Edge} {g : Option (Nat × Bool)} {dd : Option Nat}
end
section
variable {P : Program} {U : Snaps} {l : Slots} {L : Boxes}
end
end
section
open Go.RowKit
def OutT {α : Type} (z : Nat) (enc : α → List Value) (w : World) (E : Int) (zs : List α) (e : Ending) (w' : World) : Prop := ∃ A n c, e = .returned (.tuple #[.slice A n c, .int .i64 E]) ∧ NewT z enc w.heap.size w' A n c zs ∧ Below w.heap.size w w'
theorem OutT.nil {α : Type} {z : Nat} {enc : α → List Value} {w w' : World} {E : Int} (hb : Below w.heap.size w w') : OutT z enc w E ([] : List α) (.returned (.tuple #[.slice none 0 0, .int .i64 E])) w' :=
 ⟨none, 0, 0, rfl, ⟨IsT.nil _ _ _ _, fun b o e => (by cases e), Nat.le_refl _, by omega⟩, hb⟩
theorem OutT.ok {α : Type} {z n c : Nat} {enc : α → List Value} {w w' : World} {A : Option Addr} {zs : List α} {E : Int} (h : NewT z enc w.heap.size w' A n c zs) (hb : Below w.heap.size w w') : OutT z enc w E zs (.returned (.tuple #[.slice A n c, .int .i64 E])) w' := ⟨A, n, c, rfl, h, hb⟩
end
section
open Go.RowKit
theorem flat_ints : ∀ n : Nat, (List.replicate n (0 : Int)).flatMap intCells = List.replicate n (.int .i64 0)
 | 0 => rfl
 | n + 1 => by rw [List.replicate_succ, List.replicate_succ, List.flatMap_cons, flat_ints n]; rfl
end
section
open Go.RowKit
theorem IsT.get {α : Type} {n : Nat} {enc : α → List Value} {w : World} {b o len : Nat} {zs : List α} (h : IsT n enc w (some ⟨b, o, none⟩) len zs) {j : Nat} {x : α} (hx : zs[j]? = some x) {i : Nat} {v : Value} (hv : (enc x)[i]? = some v) : w.cell? ⟨b, o + j * n + i, none⟩ = some v := by
 have hj := (List.getElem?_eq_some_iff.1 hx).1
 obtain ⟨b', o', e, _, hc⟩ := h.2 (by rw [← h.1]; omega)
 injection e with e
 injection e with e1 e2
 subst e1 e2
 exact hc j x hx i v hv
set_option maxHeartbeats 400000 in
theorem rwithin2_any (n a b : Int) (w : World) :
  Calls Tryz.prog 94 #[.int .i64 n, .int .i64 a, .int .i64 b] w fun e w' => e = .returned (.bool (wthn n a b)) ∧ w = w' := by
 go_enter Tryz.func94, Tryz.ntmps94
 go_wp2
 all_goals go_ret
 all_goals (simp [wthn]; try omega)
set_option maxHeartbeats 400000 in
theorem rplaced_any (r z : Int) (w : World) :
  Calls Tryz.prog 114 #[.int .i64 r, .int .i64 z] w fun e w' => e = .returned (.bool (nearB r z 60)) ∧ w = w' := by
 have HE : Hid (nearB r z 60 = (wthn r (-60) 60 && wthn z (-60) 60)) := Lib.hid rfl
 cases h : wthn r (-60) 60
 all_goals go_enter Tryz.func114, Tryz.ntmps114
 all_goals go_wp2_with (go_at_call 94; refine (rwithin2_any _ _ _ _).mono ?_; rintro e w1 ⟨rfl, rfl⟩)
 all_goals go_ret
 all_goals exact ⟨by rw [HE.out, h]; rfl, rfl⟩
theorem nameByte_ways {x : Int} (h0 : 0 ≤ x) (h1 : x < 256) :
  (x < 48 ∧ nameByte x = false) ∨ (48 ≤ x ∧ x ≤ 57 ∧ nameByte x = true) ∨ (57 < x ∧ x < 95 ∧ nameByte x = false) ∨ (x = 95 ∧ nameByte x = true) ∨ (95 < x ∧ x < 97 ∧ nameByte x = false) ∨ (97 ≤ x ∧ x ≤ 122 ∧ nameByte x = true) ∨ (122 < x ∧ nameByte x = false) := by
 have e : nameByte x = true ↔ (97 ≤ x ∧ x ≤ 122) ∨ x = 95 ∨ (48 ≤ x ∧ x ≤ 57) := by simp [nameByte, smallB]
 have f : nameByte x = false ↔ ¬((97 ≤ x ∧ x ≤ 122) ∨ x = 95 ∨ (48 ≤ x ∧ x ≤ 57)) := by rw [← e]; simp
 rw [e, f]
 omega
set_option maxHeartbeats 4000000 in
theorem rname_any (s : ByteArray) (w : World) :
  Calls Tryz.prog 110 #[.string s] w fun e w' => e = .returned (.bool (nameB s.data.toList)) ∧ w = w' := by
 have hz : s.data.toList.length = s.size := Array.length_toList
 cases hL : s.data.toList with
 | nil =>
  rw [hL] at hz
  have h1 : s.size = 0 := hz.symm
  clear hz hL
  go_enter Tryz.func110, Tryz.ntmps110
  go_wp2
  go_ret
  exact ⟨rfl, rfl⟩
 | cons c r =>
  rw [hL] at hz
  have hz1 : s.size = r.length + 1 := by rw [← hz]; rfl
  have ix0 : ∀ W : World, (Instr.index 9 (.string s) (.int .i64 0)).run Tryz.prog W = .ok (.int .u8 (c.toNat : Int)) W := fun W => indexS_any s (c :: r) hL 0 (by simp) W
  have HG : Hid (nameB (c :: r) = (decide (r.length < 16) && (smallB c.toNat && (c :: r).all fun b => nameByte b.toNat))) := Lib.hid rfl
  generalize nameB (c :: r) = G at *
  have hs1 : 1 ≤ s.size := by omega
  have hs0 : ¬((s.size : Int) < 1) := by omega
  by_cases h16 : r.length < 16
  ·have hs2 : s.size ≤ 16 := by omega
   have c0 : (0 : Int) ≤ c.toNat := by omega
   by_cases hsm : smallB c.toNat = true
   ·have HN : Hid (G = (c :: r).all fun b => nameByte b.toNat) := Lib.hid (by rw [HG.out, decide_eq_true h16, hsm]; simp)
    obtain ⟨s1, s2⟩ : (97 : Int) ≤ c.toNat ∧ (c.toNat : Int) ≤ 122 := by simpa [smallB] using hsm
    obtain ⟨l, hl⟩ : ∃ l, c :: r = l := ⟨_, rfl⟩
    rw [hl] at HN hL hz
    clear HG hl hz1 hsm
    generalize (c.toNat : Int) = ci at *
    have HL := Lib.hid hL
    have HZ := Lib.hid hz
    clear hL hz
    go_enter Tryz.func110, Tryz.ntmps110
    go_wp2_with fail
    clear ix0 s1 s2
    go_loop [3, 4] (fun i _ => ∃ k : Nat, k ≤ s.size ∧ i = .int .i64 k ∧ Hid (((l.drop k).all fun b => nameByte b.toNat) = G)) (fun i _ => s.size - (intOf i).toNat)
    case atStart => exact ⟨0, Nat.zero_le _, rfl, Lib.hid (by rw [HN.out]; rfl)⟩
    case round =>
     obtain ⟨k, hk, rfl, hG⟩ := hrel
     by_cases hlt : k < s.size
     ·have hkl : k < l.length := by rw [HZ.out]; exact hlt
      have ix := indexS_any s l HL.out k hkl
      have HS := Lib.hid (show (nameByte l[k].toNat && ((l.drop (k + 1)).all fun b => nameByte b.toNat)) = G from by rw [← hG.out, List.drop_eq_getElem_cons hkl]; rfl)
      have c255 : l[k].toNat < 256 := l[k].toNat_lt
      obtain ⟨x, hxe⟩ : ∃ x : Int, (l[k].toNat : Int) = x := ⟨_, rfl⟩
      rw [hxe] at ix HS
      have hx0 : 0 ≤ x := by omega
      have hx1 : x < 256 := by omega
      clear hkl hxe c255
      rcases nameByte_ways hx0 hx1 with ⟨h1, hnb⟩ | ⟨h1, h2, hnb⟩ | ⟨h1, h2, hnb⟩ | ⟨rfl, hnb⟩ | ⟨h1, h2, hnb⟩ | ⟨h1, h2, hnb⟩ | ⟨h1, hnb⟩
      ·rw [hnb] at HS; clear hnb
       have h95 : (x == 95) = false := by rw [beq_eq_false_iff_ne]; omega
       go_wp2_with fail
       go_ret
       exact ⟨by rw [← HS.out]; rfl, rfl⟩
      ·rw [hnb] at HS; clear hnb
       have HT : Hid (((l.drop (k + 1)).all fun b => nameByte b.toNat) = G) := Lib.hid (by have h := HS.out; rwa [Bool.true_and] at h)
       have h95 : (x == 95) = false := by rw [beq_eq_false_iff_ne]; omega
       go_wp2_with fail
       all_goals go_round
       all_goals first | exact ⟨k + 1, by omega, by go_num, HT⟩ | (simp [intOf]; omega)
      ·rw [hnb] at HS; clear hnb
       have d57 : decide (x ≤ 57) = false := decide_eq_false (by omega)
       have h95 : (x == 95) = false := by rw [beq_eq_false_iff_ne]; omega
       go_wp2_with fail
       go_ret
       exact ⟨by rw [← HS.out]; rfl, rfl⟩
      ·rw [hnb] at HS; clear hnb
       have HT : Hid (((l.drop (k + 1)).all fun b => nameByte b.toNat) = G) := Lib.hid (by have h := HS.out; rwa [Bool.true_and] at h)
       go_wp2_with fail
       all_goals go_round
       all_goals first | exact ⟨k + 1, by omega, by go_num, HT⟩ | (simp [intOf]; omega)
      ·rw [hnb] at HS; clear hnb
       have d57 : decide (x ≤ 57) = false := decide_eq_false (by omega)
       have h95 : (x == 95) = false := by rw [beq_eq_false_iff_ne]; omega
       go_wp2_with fail
       go_ret
       exact ⟨by rw [← HS.out]; rfl, rfl⟩
      ·rw [hnb] at HS; clear hnb
       have HT : Hid (((l.drop (k + 1)).all fun b => nameByte b.toNat) = G) := Lib.hid (by have h := HS.out; rwa [Bool.true_and] at h)
       have h95 : (x == 95) = false := by rw [beq_eq_false_iff_ne]; omega
       go_wp2_with fail
       all_goals go_round
       all_goals first | exact ⟨k + 1, by omega, by go_num, HT⟩ | (simp [intOf]; omega)
      ·rw [hnb] at HS; clear hnb
       have d57 : decide (x ≤ 57) = false := decide_eq_false (by omega)
       have d122 : decide (x ≤ 122) = false := decide_eq_false (by omega)
       have h95 : (x == 95) = false := by rw [beq_eq_false_iff_ne]; omega
       go_wp2_with fail
       go_ret
       exact ⟨by rw [← HS.out]; rfl, rfl⟩
     ·have HT : Hid (G = true) := Lib.hid (by rw [← hG.out, List.drop_of_length_le (by rw [HZ.out]; omega)]; rfl)
      go_wp2
      go_ret
      exact ⟨by rw [HT.out]; rfl, rfl⟩
   ·have hsf : smallB c.toNat = false := by simpa using hsm
    have HN : Hid (G = false) := Lib.hid (by rw [HG.out, hsf]; simp)
    have hw : (c.toNat : Int) < 97 ∨ ((97 : Int) ≤ c.toNat ∧ 122 < (c.toNat : Int)) := by
     simp [smallB] at hsf; omega
    clear hz hz1 hL HG hsm hsf
    generalize (c.toNat : Int) = ci at *
    rcases hw with hw | ⟨hw1, hw2⟩
    all_goals go_enter Tryz.func110, Tryz.ntmps110
    all_goals go_wp2_with fail
    all_goals go_ret
    all_goals exact ⟨by rw [HN.out]; rfl, rfl⟩
  ·have hs2 : 16 < s.size := by omega
   have HN : Hid (G = false) := Lib.hid (by rw [HG.out, decide_eq_false h16]; rfl)
   clear hz hz1 hL HG h16
   go_enter Tryz.func110, Tryz.ntmps110
   go_wp2_with fail
   go_ret
   exact ⟨by rw [HN.out]; rfl, rfl⟩
end
section
open Go.RowKit Go.Shelf
set_option maxRecDepth 100000 in
set_option maxHeartbeats 16000000 in
theorem rcoils_any (name : ByteArray) (A B C D : Option Addr) (la ca lb cb lc cc ld cd : Nat) (r z nr nz step : Int) (zs : List CoilD) (w : World) (hI : IsT 8 CoilD.cells w A la zs) :
  Calls Tryz.prog 111 #[.agg #[.string name, .slice A la ca, .slice B lb cb, .slice C lc cc, .int .i64 r, .int .i64 z, .int .i64 nr, .int .i64 nz, .int .i64 step, .slice D ld cd]] w (Ret (.int .i64 (eachC coilC 12 zs)) w) := by
 have HI := Lib.hid hI
 have hz := hI.1
 by_cases hm : 12 < la
 ·have HG : Hid (eachC coilC 12 zs = 4) := Lib.hid (by unfold eachC; rw [if_pos (by omega)])
  clear hI hz
  generalize eachC coilC 12 zs = G at *
  go_enter Tryz.func111, Tryz.ntmps111
  go_wp2_with fail
  go_ret
  exact ⟨by rw [HG.out]; rfl, by (repeat first | with_reducible exact Below.refl _ _ | (with_reducible refine Below.alloc ?_ ?_ _; rotate_left; exact (by omega)))⟩
 have hl : la ≤ 1000000000000000 := by omega
 have HG : Hid (eachC coilC 12 zs = eachGo coilC [] zs) := Lib.hid (by unfold eachC; rw [if_neg (by omega)])
 generalize eachC coilC 12 zs = G at *
 clear hI hz
 go_enter Tryz.func111, Tryz.ntmps111
 go_wp2_with fail
 go_loopw [3, 4, 5] (fun i _ _ wr => ∃ j : Nat, j ≤ la ∧ i = .int .i64 j ∧ Hid (eachGo coilC (zs.take j) (zs.drop j) = G) ∧ Below w.heap.size w wr ∧ w.heap.size < wr.heap.size ∧ wr.cell? ⟨w.heap.size, 1, none⟩ = some (.slice A la ca)) (fun i _ _ _ => la - (intOf i).toNat)
 case atStart => exact ⟨0, Nat.zero_le _, rfl, Lib.hid HG.out.symm, by (repeat first | with_reducible exact Below.refl _ _ | (with_reducible refine Below.alloc ?_ ?_ _; rotate_left; exact (by omega))), by simp, by go_simp⟩
 case round =>
  obtain ⟨j, hj, rfl, hG, hB, hq, q1⟩ := hrel
  by_cases hlt : j < la
  ·obtain ⟨hzl, hcl⟩ := HI.out.below hB
   obtain ⟨b, o, rfl, hb0, hcl⟩ := hcl (by omega)
   obtain ⟨x, hx⟩ : ∃ x, zs[j]? = some x := ⟨_, List.getElem?_eq_getElem (by omega)⟩
   have HS := Lib.hid (hG.out.symm.trans (eachGo_step coilC hx))
   have x0 : wr.cell? ⟨b, o + j * 8, none⟩ = some (.string x.name) := by have h := hcl j x hx 0 _ rfl; simpa using h
   have x1 : wr.cell? ⟨b, o + j * 8 + 1, none⟩ = some (.int .i64 x.r) := by have h := hcl j x hx 1 _ rfl; simpa using h
   have x2 : wr.cell? ⟨b, o + j * 8 + 2, none⟩ = some (.int .i64 x.z) := by have h := hcl j x hx 2 _ rfl; simpa using h
   have x3 : wr.cell? ⟨b, o + j * 8 + 3, none⟩ = some (.int .i64 x.turns) := by have h := hcl j x hx 3 _ rfl; simpa using h
   have x4 : wr.cell? ⟨b, o + j * 8 + 4, none⟩ = some (.int .i64 x.cur) := by have h := hcl j x hx 4 _ rfl; simpa using h
   have x5 : wr.cell? ⟨b, o + j * 8 + 5, none⟩ = some (.int .i64 x.step) := by have h := hcl j x hx 5 _ rfl; simpa using h
   have x6 : wr.cell? ⟨b, o + j * 8 + 6, none⟩ = some (.int .i64 x.heat) := by have h := hcl j x hx 6 _ rfl; simpa using h
   have x7 : wr.cell? ⟨b, o + j * 8 + 7, none⟩ = some (.int .i64 x.cool) := by have h := hcl j x hx 7 _ rfl; simpa using h
   have hsz := hB.size
   clear hcl hx hzl hG
   have jc : (0 : Int) ≤ j := by omega
   have jn : ((j : Int)).toNat = j := by omega
   cases hnm : nameB x.name.data.toList
   ·have HF : Hid ((1 : Int) = G) := Lib.hid (by rw [HS.out]; unfold coilC; rw [hnm]; simp)
    clear HS
    go_wp2_with (go_at_call 110; refine (rname_any _ _).mono ?_; rintro e w1 ⟨rfl, rfl⟩)
    go_ret
    exact ⟨by rw [← HF.out]; rfl, by (repeat first | with_reducible assumption | (with_reducible refine Below.alloc ?_ ?_ _; rotate_left; exact (by omega)))⟩
   ·have HK0 : Hid (coilC x (zs.take j) = if (zs.take j).any (fun y => decide (y.name = x.name)) = true then 6 else rng (nearB x.r x.z 60 && (wthn x.turns 1 100 && (wthn x.cur 1 1000000 && (wthn x.step 1 1000000 && (wthn x.heat 1 1000000000000 && wthn x.cool 0 1000000000)))))) := Lib.hid (by unfold coilC; rw [hnm]; rfl)
    go_wp2_with (go_at_call 110; refine (rname_any _ _).mono ?_; rintro e w1 ⟨rfl, rfl⟩)
    clear hnm x0
    obtain ⟨wo, hwo⟩ : ∃ wo, wo = wr := ⟨_, rfl⟩
    subst hwo
    go_loopw [5] (fun k wr => ∃ t : Nat, t ≤ j ∧ k = .int .i64 t ∧ Hid (∀ y ∈ zs.take t, y.name ≠ x.name) ∧ Below w.heap.size w wr ∧ wo.heap.size < wr.heap.size ∧ wr.cell? ⟨w.heap.size, 1, none⟩ = some (.slice (some ⟨b, o, none⟩) la ca) ∧ wr.cell? ⟨wo.heap.size, 0, none⟩ = some (.string x.name) ∧ wr.cell? ⟨wo.heap.size, 1, none⟩ = some (.int .i64 x.r) ∧ wr.cell? ⟨wo.heap.size, 2, none⟩ = some (.int .i64 x.z) ∧ wr.cell? ⟨wo.heap.size, 3, none⟩ = some (.int .i64 x.turns) ∧ wr.cell? ⟨wo.heap.size, 4, none⟩ = some (.int .i64 x.cur) ∧ wr.cell? ⟨wo.heap.size, 5, none⟩ = some (.int .i64 x.step) ∧ wr.cell? ⟨wo.heap.size, 6, none⟩ = some (.int .i64 x.heat) ∧ wr.cell? ⟨wo.heap.size, 7, none⟩ = some (.int .i64 x.cool)) (fun k _ => j - (intOf k).toNat)
    case atStart => exact ⟨0, Nat.zero_le _, rfl, Lib.hid (fun y hy => by simp at hy), by (repeat first | with_reducible assumption | (with_reducible refine Below.alloc ?_ ?_ _; rotate_left; exact (by omega))), by simp, by go_simp, by go_simp, by go_simp, by go_simp, by go_simp, by go_simp, by go_simp, by go_simp, by go_simp⟩
    case round =>
     obtain ⟨t, ht, rfl, hU, hBx, hwx, q2, c0, c1, c2, c3, c4, c5, c6, c7⟩ := hrel
     have hqx : w.heap.size < wr.heap.size := by omega
     by_cases htj : t < j
     ·obtain ⟨y, hy⟩ : ∃ y, zs[t]? = some y := ⟨_, List.getElem?_eq_getElem (by rw [HI.out.1]; omega)⟩
      have y0 : wr.cell? ⟨b, o + t * 8, none⟩ = some (.string y.name) := by have h := (HI.out.below hBx).get hy (i := 0) rfl; simpa using h
      have hyt : zs.take (t + 1) = zs.take t ++ [y] := by
       obtain ⟨hk, rfl⟩ := List.getElem?_eq_some_iff.1 hy
       exact List.take_succ_eq_append_getElem hk
      have hym : y ∈ zs.take j := List.mem_take_iff_getElem.2 ⟨t, by rw [HI.out.1]; omega, by
       obtain ⟨hk, rfl⟩ := List.getElem?_eq_some_iff.1 hy
       rfl⟩
      have HYT := Lib.hid hyt
      clear hy hyt
      have hsb := str_beq y.name x.name
      have tc : (0 : Int) ≤ t := by omega
      have tn : ((t : Int)).toNat = t := by omega
      by_cases e : y.name = x.name
      ·have HF : Hid ((6 : Int) = G) := Lib.hid (by
        rw [HS.out, HK0.out, if_pos (List.any_eq_true.2 ⟨y, hym, decide_eq_true e⟩)]; rfl)
       rw [decide_eq_true e] at hsb
       clear e HS HK0 HYT hym
       obtain ⟨yn, hyn⟩ : ∃ yn, y.name = yn := ⟨_, rfl⟩
       rw [hyn] at y0 hsb
       obtain ⟨xn, hxn⟩ : ∃ xn, x.name = xn := ⟨_, rfl⟩
       rw [hxn] at c0 hsb
       clear hyn hxn
       go_wp2_with fail
       go_quiet (fail)
       go_wp2_with fail
       go_ret
       exact ⟨by rw [← HF.out]; rfl, by (repeat first | with_reducible assumption | with_reducible refine Below_drewN ?_ _)⟩
      ·have HU2 : Hid (∀ u ∈ zs.take (t + 1), u.name ≠ x.name) := Lib.hid (by
        rw [HYT.out]; intro u hu
        rcases List.mem_append.1 hu with hu | hu
        ·exact hU.out u hu
        ·obtain rfl : u = y := by simpa using hu
         exact e)
       rw [decide_eq_false e] at hsb
       clear e HYT hym
       go_wp2_with fail
       go_quiet (fail)
       go_wp2_with fail
       go_roundw
       case rel => exact ⟨t + 1, by omega, by go_num, HU2, by (repeat first | with_reducible assumption | with_reducible refine Below_drewN ?_ _), by simpa using hwx, by go_simp, by go_simp, by go_simp, by go_simp, by go_simp, by go_simp, by go_simp, by go_simp, by go_simp⟩
       case measure => simp [intOf]; omega
     ·obtain rfl : t = j := by omega
      have HK : Hid (coilC x (zs.take t) = rng (nearB x.r x.z 60 && (wthn x.turns 1 100 && (wthn x.cur 1 1000000 && (wthn x.step 1 1000000 && (wthn x.heat 1 1000000000000 && wthn x.cool 0 1000000000)))))) := Lib.hid (by
       rw [HK0.out, if_neg (by
        intro h
        obtain ⟨u, hu, hd⟩ := List.any_eq_true.1 h
        exact hU.out u hu (of_decide_eq_true hd))])
      clear HK0
      cases p1 : nearB x.r x.z 60
      ·have HF : Hid ((7 : Int) = G) := Lib.hid (by rw [HS.out, HK.out, p1]; simp [rng])
       clear HS HK
       go_wp2_with (go_at_call 114; refine (rplaced_any _ _ _).mono ?_; rintro e w1 ⟨rfl, rfl⟩)
       go_ret
       exact ⟨by rw [← HF.out]; rfl, by (repeat with_reducible assumption)⟩
      cases p2 : wthn x.turns 1 100
      ·have HF : Hid ((7 : Int) = G) := Lib.hid (by rw [HS.out, HK.out, p1, p2]; simp [rng])
       clear HS HK
       go_wp2_with (first | (go_at_call 94; refine (rwithin2_any _ _ _ _).mono ?_; rintro e w1 ⟨rfl, rfl⟩) | (go_at_call 114; refine (rplaced_any _ _ _).mono ?_; rintro e w1 ⟨rfl, rfl⟩))
       go_ret
       exact ⟨by rw [← HF.out]; rfl, by (repeat with_reducible assumption)⟩
      cases p3 : wthn x.cur 1 1000000
      ·have HF : Hid ((7 : Int) = G) := Lib.hid (by rw [HS.out, HK.out, p1, p2, p3]; simp [rng])
       clear HS HK
       go_wp2_with (first | (go_at_call 94; refine (rwithin2_any _ _ _ _).mono ?_; rintro e w1 ⟨rfl, rfl⟩) | (go_at_call 114; refine (rplaced_any _ _ _).mono ?_; rintro e w1 ⟨rfl, rfl⟩))
       go_ret
       exact ⟨by rw [← HF.out]; rfl, by (repeat with_reducible assumption)⟩
      cases p4 : wthn x.step 1 1000000
      ·have HF : Hid ((7 : Int) = G) := Lib.hid (by rw [HS.out, HK.out, p1, p2, p3, p4]; simp [rng])
       clear HS HK
       go_wp2_with (first | (go_at_call 94; refine (rwithin2_any _ _ _ _).mono ?_; rintro e w1 ⟨rfl, rfl⟩) | (go_at_call 114; refine (rplaced_any _ _ _).mono ?_; rintro e w1 ⟨rfl, rfl⟩))
       go_ret
       exact ⟨by rw [← HF.out]; rfl, by (repeat with_reducible assumption)⟩
      cases p5 : wthn x.heat 1 1000000000000
      ·have HF : Hid ((7 : Int) = G) := Lib.hid (by rw [HS.out, HK.out, p1, p2, p3, p4, p5]; simp [rng])
       clear HS HK
       go_wp2_with (first | (go_at_call 94; refine (rwithin2_any _ _ _ _).mono ?_; rintro e w1 ⟨rfl, rfl⟩) | (go_at_call 114; refine (rplaced_any _ _ _).mono ?_; rintro e w1 ⟨rfl, rfl⟩))
       go_ret
       exact ⟨by rw [← HF.out]; rfl, by (repeat with_reducible assumption)⟩
      cases p6 : wthn x.cool 0 1000000000
      ·have HF : Hid ((7 : Int) = G) := Lib.hid (by rw [HS.out, HK.out, p1, p2, p3, p4, p5, p6]; simp [rng])
       clear HS HK
       go_wp2_with (first | (go_at_call 94; refine (rwithin2_any _ _ _ _).mono ?_; rintro e w1 ⟨rfl, rfl⟩) | (go_at_call 114; refine (rplaced_any _ _ _).mono ?_; rintro e w1 ⟨rfl, rfl⟩))
       go_ret
       exact ⟨by rw [← HF.out]; rfl, by (repeat with_reducible assumption)⟩
      have HN : Hid (eachGo coilC (zs.take (t + 1)) (zs.drop (t + 1)) = G) := Lib.hid (by rw [HS.out, HK.out, p1, p2, p3, p4, p5, p6]; simp [rng])
      clear HS HK
      go_wp2_with (first | (go_at_call 94; refine (rwithin2_any _ _ _ _).mono ?_; rintro e w1 ⟨rfl, rfl⟩) | (go_at_call 114; refine (rplaced_any _ _ _).mono ?_; rintro e w1 ⟨rfl, rfl⟩))
      go_roundw
      case rel => exact ⟨t + 1, by omega, by go_num, HN, by (repeat with_reducible assumption), hqx, by go_simp⟩
      case measure => simp [intOf]; omega
  ·have HN : Hid ((0 : Int) = G) := Lib.hid (by rw [← hG.out, List.drop_of_length_le (by rw [HI.out.1]; omega)]; rfl)
   go_wp2
   go_ret
   exact ⟨by rw [← HN.out]; rfl, by (repeat with_reducible assumption)⟩
end
end Go.Proofs.YtapldonpflgnfaaGreatDoor
