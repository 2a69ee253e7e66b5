import Derived.Test.YthggkidiidnaoaaGreatDoorKAA
import Derived.Test.YthggkidiidnaoaaGreatDoorKAB
import Derived.Test.YthggkidiidnaoaaGreatDoorKAX
import Derived.Test.YthggkidiidnaoaaGreatDoorKBA
import Derived.Test.YthggkidiidnaoaaGreatDoorKBC
import Derived.Test.YthggkidiidnaoaaGreatDoorRows
import Derived.KernelRfl
import Derived.Laws.StructEq
namespace Go.Proofs.YthggkidiidnaoaaGreatDoor
set_option linter.unusedVariables false
set_option linter.unusedSimpArgs false
section
set_option autoImplicit false
open Go.RowKit
section
variable {P : Program} {e0 : Cfg} {U : Snaps} {l : Slots} {L : Boxes} {ops : Array Oper} {Q : Exit → Act → World → Prop} {rest : List Oper} {d : Nat}
theorem ac_toTail {b n : Nat} {cs : List Value} {L1 G L L' : Boxes} {c : Code} (hT : Tl L1 G L) (hT' : Tl L1 (gt (some (b, n, [])) cs ++ G) L') (k : AC P e0 U l L' c Q) : AC P e0 U l ((b, .cells cs) :: L) c Q := fun a w hf hs => k a w hf (hs.perm (by
 rw [hT.eq, hT'.eq]
 simp only [gt, List.append_nil, List.singleton_append]
 exact List.perm_middle.symm))
variable {ty : TypeId} {pos : String} {af : Array Edge} {g : Option (Nat × Bool)} {dd : Option Nat}
theorem q_fromE {t e z len cap lo : Nat} {A : Option Addr} {ii : Int} {k : IntKind} {ox oi : Operand} (hx : E l ox = some (.slice A len cap)) (hi : E l oi = some (.int k ii)) (hii : ii = (lo : Int)) (hlo : lo ≤ len) (hu : P.underlying t = some (.slice e)) (hz : ∀ w, (sizeOf e).run P w = .ok z w) :
  Q1 P e0 U l L ⟨dd, .slice t ox (some oi) none none, ty, pos, af, g⟩ (.slice (if cap = lo then A else A.map (·.add (lo * z))) (len - lo) (cap - lo)) := by
 intro a w hf hs
 subst hii
 have hru : ∀ w, (underlying t).run P w = .ok (.slice e) w := fun w => run_underlying hu w
 simp only [execOp, hf.ev hx, Option.map_some, hf.ev hi, Option.map_none]
 simp [Instr.sliceAt, Instr.slice, hru, Instr.sliceBounds, Instr.sliceBound, asIntOf, hlo, hz]
theorem IsT.from {α : Type} {z : Nat} {enc : α → List Value} {w : World} {A : Option Addr} {len cap lo : Nat} {zs : List α} (h : IsT z enc w A len zs) (hlo : lo ≤ len) (hcap : len ≤ cap) : IsT z enc w (if cap = lo then A else A.map (·.add (lo * z))) (len - lo) (zs.drop lo) := by
 by_cases h0 : 0 < len - lo
 ·obtain ⟨b, o, e, hb, hg⟩ := h.2 (by omega)
  subst e
  rw [if_neg (by omega)]
  have := h.drop lo
  simpa [addr_add] using this
 ·exact ⟨by rw [List.length_drop, h.1], fun h1 => absurd h1 h0⟩
end
end
section
open Go.RowKit
theorem pair_ex (w : World) : Calls Tryz.prog 46 #[(.agg #[.int .i64 500, .int .i64 490, .int .i64 520])] w (Ret (.bool true) w) := by
 have h := validPair_any 500 490 520 w
 rwa [show okP (500, 490, 520) = true by decide +kernel] at h
theorem gains_ex (w : World) : Calls Tryz.prog 47 #[(.agg #[.int .i64 500, .int .i64 490, .int .i64 520])] w (Ret (.agg #[.int .i64 980, .int .i64 1040]) w) := by
 have h := gains_any 500 490 520 w (by decide +kernel)
 rwa [show gLo (500, 490, 520) = 980 by decide +kernel, show gHi (500, 490, 520) = 1040 by decide +kernel] at h
theorem span_ex (w : World) : Calls Tryz.prog 48 #[(.agg #[.int .i64 980, .int .i64 1040])] w (Ret (.bool true) w) := by
 have h := valid_any 980 1040 w
 rwa [show vld 980 1040 = true by decide +kernel] at h
set_option maxRecDepth 100000 in
theorem gain_ex9 (w : World) : Calls Tryz.prog 18 #[(.agg #[.int .i64 500, .int .i64 490, .int .i64 520])] w (Ret (.tuple #[.agg #[.int .i64 980, .int .i64 1040], .int .i64 0]) w) := by
 refine calls_ax (vs := [(.agg #[.int .i64 500, .int .i64 490, .int .i64 520])]) Tryz.func18 rfl rfl ?_
 refine ac_seq (ac_region ?_)
 refine al_new (fun b => .pointer (some ⟨b, 0, none⟩)) (r_box rfl rfl) rfl rfl rfl ?_
 intro b1
 refine al_new (fun b => .pointer (some ⟨b, 0, none⟩)) (r_alloc Tryz.zeroValue67 rfl) rfl rfl rfl ?_
 intro b2
 refine al_p (q_assign rfl) (al_end (aq_then ?_))
 refine ac_seq (ac_seq (ac_region ?_))
 refine al_p (q_loadAll (i := 1) rfl rfl Tryz.isAgg74 Tryz.sizeOf74 rfl) (al_call Tryz.call46 (.cons rfl .nil) rfl rfl (fun w1 hs1 => ?_))
 refine (pair_ex _).mono ?_
 rintro e u1 ⟨rfl, hb_1⟩
 refine ⟨_, rfl, hb_1, ?_⟩
 clear hs1
 refine al_p (q_not rfl) (al_end (aq_then ?_))
 refine ac_condF rfl (ac_skip (aq_then (ac_seq (ac_region ?_))))
 refine al_p (q_loadAll (i := 1) rfl rfl Tryz.isAgg74 Tryz.sizeOf74 rfl) (al_call Tryz.call47 (.cons rfl .nil) rfl rfl (fun w2 hs2 => ?_))
 refine (gains_ex _).mono ?_
 rintro e u2 ⟨rfl, hb_2⟩
 refine ⟨_, rfl, hb_2, ?_⟩
 clear hs2
 refine al_new (fun b => .pointer (some ⟨b, 0, none⟩)) (r_alloc Tryz.zeroValue67 rfl) rfl rfl rfl ?_
 intro b3
 refine al_storeAll (i := 0) rfl rfl rfl rfl Tryz.sizeOf67 rfl rfl .k0 rfl (al_end (aq_then ?_))
 refine ac_seq (ac_seq (ac_region ?_))
 refine al_p (q_fieldAddr 0 rfl Tryz.runUnderlying67 rfl Tryz.sizeOf3 (by decide) rfl) (al_p (q_load (i := 0) rfl rfl rfl Tryz.isAgg3) ?_)
 refine al_p (q_fieldAddr 1 rfl Tryz.runUnderlying67 rfl Tryz.sizeOf3 (by decide) rfl) (al_p (q_load (i := 0) rfl rfl rfl Tryz.isAgg3) (al_p (q_gtr rfl rfl) (al_end (aq_then ?_))))
 refine ac_cond rfl (fun h1 => ?_) (fun h1 => ?_)
 ·exact absurd h1 (by decide)
 ·refine ac_skip (aq_then (ac_seq (ac_seq (ac_region ?_))))
  refine al_p (q_loadAll (i := 0) rfl rfl Tryz.isAgg67 Tryz.sizeOf67 rfl) (al_call Tryz.call48 (.cons rfl .nil) rfl rfl (fun w3 hs3 => ?_))
  refine (span_ex _).mono ?_
  rintro e u3 ⟨rfl, hb_3⟩
  refine ⟨_, rfl, hb_3, ?_⟩
  clear hs3
  refine al_p (q_not rfl) (al_end (aq_then ?_))
  refine ac_condF rfl (ac_skip (aq_then (ac_seq (ac_region ?_))))
  refine al_p (q_loadAll (i := 0) rfl rfl Tryz.isAgg67 Tryz.sizeOf67 rfl) (al_storeAll (i := 1) rfl rfl rfl rfl Tryz.sizeOf67 rfl rfl .k1 rfl (al_p (q_assign rfl) (al_end (aq_then ?_))))
  refine ac_ret (retR Tryz.results18 (.agg (i := 1) rfl rfl Tryz.isAgg67 Tryz.sizeOf67 rfl (.tmp rfl .nil)) .two (fun w9 hs => ?_))
  exact ⟨rfl, hs.below⟩
end
section
open Go.RowKit Go.Shelf
theorem isT_one {α : Type} {n : Nat} {enc : α → List Value} {W : World} {b : Nat} {x : α} (hb : b < W.heap.size) (h : ∀ (i : Nat) (v : Value), (enc x)[i]? = some v → W.cell? ⟨b, i, none⟩ = some v) : IsT n enc W (some ⟨b, 0, none⟩) 1 [x] :=
 ⟨rfl, fun _ => ⟨b, 0, rfl, hb, fun j y hy i v hv => by
  rcases j with _ | j
  ·obtain rfl : x = y := by simpa using hy
   have := h i v hv
   simpa using this
  ·simp at hy⟩⟩
theorem isM_ex {W : World} {x y : Nat} (hx : x < W.heap.size) (hy : y < W.heap.size) (x0 : W.cell? ⟨x, 0, none⟩ = some (.int .i64 9)) (x1 : W.cell? ⟨x, 1, none⟩ = some (.int .i64 0))
  (y0 : W.cell? ⟨y, 0, none⟩ = some (.string ⟨#[115]⟩)) (y1 : W.cell? ⟨y, 1, none⟩ = some (.int .i64 1)) (y2 : W.cell? ⟨y, 2, none⟩ = some (.int .i64 0)) (y3 : W.cell? ⟨y, 3, none⟩ = some (.int .i64 0)) (y4 : W.cell? ⟨y, 4, none⟩ = some (.int .i64 0)) :
  IsM W ⟨none, none, some ⟨x, 0, none⟩, some ⟨y, 0, none⟩, 0, 0, 0, 0, 1, 1, 1, 1⟩ exM := by
 refine ⟨IsT.nil _ _ _ _, IsT.nil _ _ _ _, isT_one hx fun i v hv => ?_, isT_one hy fun i v hv => ?_, Nat.le_refl _, Nat.le_refl _, Nat.le_refl _, Nat.le_refl _, by dsimp only; omega, by dsimp only; omega, by dsimp only; omega, by dsimp only; omega, by dsimp only; omega, by dsimp only; omega, by dsimp only; omega, by dsimp only; omega⟩
 ·rcases i with _ | _ | i
  ·injection hv with hv; rw [← hv]; exact x0
  ·injection hv with hv; rw [← hv]; exact x1
  ·cases hv
 ·rcases i with _ | _ | _ | _ | _ | i
  ·injection hv with hv; rw [← hv]; exact y0
  ·injection hv with hv; rw [← hv]; exact y1
  ·injection hv with hv; rw [← hv]; exact y2
  ·injection hv with hv; rw [← hv]; exact y3
  ·injection hv with hv; rw [← hv]; exact y4
  ·cases hv
theorem isC_ex {W : World} {z : Nat} (hz : z < W.heap.size) (z0 : W.cell? ⟨z, 0, none⟩ = some (.int .i64 2)) : IsC W ⟨none, none, some ⟨z, 0, none⟩, 0, 0, 0, 0, 1, 1⟩ exC := by
 refine ⟨IsT.nil _ _ _ _, IsT.nil _ _ _ _, isT_one hz fun i v hv => ?_, Nat.le_refl _, Nat.le_refl _, Nat.le_refl _, by dsimp only; omega, by dsimp only; omega, by dsimp only; omega, by dsimp only; omega, by dsimp only; omega, by dsimp only; omega⟩
 rcases i with _ | i
 ·injection hv with hv; rw [← hv]; exact z0
 ·cases hv
theorem gain_ex (w : World) : Calls Tryz.prog 18 #[.agg #[.int .i64 500, .int .i64 490, .int .i64 520]] w (Ret (.tuple #[.agg #[.int .i64 980, .int .i64 1040], .int .i64 0]) w) := gain_ex9 w
set_option maxRecDepth 100000 in
set_option maxHeartbeats 4000000 in
theorem awake_any (w : World) : Calls Tryz.prog 7 #[] w (Ret (.bool true) w) := by
 go_enter Tryz.func7, Tryz.ntmps7
 go_wp2_with (first | (go_at_call 18; refine (gain_ex _).mono ?_; rintro e w1 ⟨rfl, hb1⟩) | (go_at_call 16; refine (read_ex (w1.heap.size + 1) (w1.heap.size + 1 + 1) (w1.heap.size + 1 + 1 + 1 + 1) _ (isM_ex (by simp) (by simp) (by go_simp) (by go_simp) (by go_simp) (by go_simp) (by go_simp) (by go_simp) (by go_simp)) (isC_ex (by simp) (by go_simp))).mono ?_; rintro e w2 ⟨b, rfl, hb0, hb2, v0, v1, hb⟩; have d0 : w2.cell? ⟨w1.heap.size, 0, none⟩ = some (.int .i64 980) := (by rw [hb.cell (by simp only [World.size_alloc]; omega)]; go_simp); have d1 : w2.cell? ⟨w1.heap.size, 1, none⟩ = some (.int .i64 1040) := (by rw [hb.cell (by simp only [World.size_alloc]; omega)]; go_simp)))
 have hs1 := hb1.size
 go_ret
 exact ⟨rfl, Below.trans (by (repeat first | with_reducible assumption | (with_reducible refine Below.alloc ?_ ?_ _; rotate_left; exact (by first | omega | (simp; omega))))) (hb.mono (by simp only [World.size_alloc]; omega))⟩
end
section
open Go.RowKit Go.Shelf
def commGo : Int → Int → List SpanD → Int × Int × Bool
 | lo, hi, [] => (lo, hi, true)
 | lo, hi, a :: r => if (meetL lo hi a.lo a.hi).2.2 = 0 then commGo (meetL lo hi a.lo a.hi).1 (meetL lo hi a.lo a.hi).2.1 r else (0, 0, false)
def commL (l : List SpanD) : Int × Int × Bool := commGo 0 1000000 l
theorem commGo_drop {l : List SpanD} {k : Nat} {x : SpanD} (h : l[k]? = some x) (lo hi : Int) : commGo lo hi (l.drop k) = if (meetL lo hi x.lo x.hi).2.2 = 0 then commGo (meetL lo hi x.lo x.hi).1 (meetL lo hi x.lo x.hi).2.1 (l.drop (k + 1)) else (0, 0, false) := by
 obtain ⟨hk, rfl⟩ := List.getElem?_eq_some_iff.1 h
 rw [List.drop_eq_getElem_cons hk]; rfl
end
end Go.Proofs.YthggkidiidnaoaaGreatDoor
