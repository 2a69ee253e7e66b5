import Derived.Test.YtapldonpflgnfaaGreatDoorLAB
import Derived.Test.YtapldonpflgnfaaGreatDoorLAO
import Derived.Test.YtapldonpflgnfaaGreatDoorLAW
import Derived.Test.YtapldonpflgnfaaGreatDoorLAY
import Derived.Test.YtapldonpflgnfaaGreatDoorLBF
import Derived.Test.YtapldonpflgnfaaGreatDoorLBG
import Derived.Test.YtapldonpflgnfaaGreatDoorLBH
import Derived.Test.YtapldonpflgnfaaGreatDoorLBI
import Derived.RangeFuncNested
import Derived.RangeFuncBound
import Derived.RangeFuncCalls
import Derived.RangeFuncLeaves
import Derived.Shelf.Abstract
import Derived.Shelf.RegionOpen
import Derived.OwnWalkIn
import Derived.TacticsInMore
import Derived.Maps.AppendAt
import Derived.LoopIn
namespace Go.Proofs.YtapldonpflgnfaaGreatDoor
set_option linter.unusedVariables false
set_option linter.unusedSimpArgs false
section
open Go.RowKit Go.Shelf
def commGo : Int → Int → List SpanD → Int × Int × Bool
 | lo, hi, [] => (lo, hi, true)
 | lo, hi, a :: r => if (meetL lo hi a.lo a.hi).2.2 = 0 then commGo (meetL lo hi a.lo a.hi).1 (meetL lo hi a.lo a.hi).2.1 r else (0, 0, false)
def commL (l : List SpanD) : Int × Int × Bool := commGo 0 1000000 l
theorem commGo_drop {l : List SpanD} {k : Nat} {x : SpanD} (h : l[k]? = some x) (lo hi : Int) : commGo lo hi (l.drop k) = if (meetL lo hi x.lo x.hi).2.2 = 0 then commGo (meetL lo hi x.lo x.hi).1 (meetL lo hi x.lo x.hi).2.1 (l.drop (k + 1)) else (0, 0, false) := by
 obtain ⟨hk, rfl⟩ := List.getElem?_eq_some_iff.1 h
 rw [List.drop_eq_getElem_cons hk]; rfl
set_option maxRecDepth 100000 in
set_option maxHeartbeats 8000000 in
theorem common_any (F : Option Addr) (n cf : Nat) (zs : List SpanD) (w : World) (hF : IsT 2 SpanD.cells w F n zs) (hn : n ≤ 100000) :
  Calls Tryz.prog 44 #[.slice F n cf] w (Ret (.tuple #[.agg #[.int .i64 (commL zs).1, .int .i64 (commL zs).2.1], .bool (commL zs).2.2]) w) := by
 have HI := Lib.hid hF
 have hl := hF.1
 have HG : Hid (commGo 0 1000000 (zs.drop 0) = commL zs) := Lib.hid rfl
 clear hF
 generalize commL zs = G at *
 obtain ⟨g1, g2, g3⟩ := G
 dsimp only
 go_enter Tryz.func44, Tryz.ntmps44
 go_upto_region 1 with (fail)
 have Ft : Hid (RowL (w.heap.size) [.int .i64 0, .int .i64 0] (w.alloc (.cells #[.int .i64 0, .int .i64 0] 41))) := Lib.hid (by have h := RowL.new w #[.int .i64 0, .int .i64 0] 41; (try simp only [World.size_alloc] at h); exact h)
 have hB0 : Below w.heap.size w (w.alloc (.cells #[.int .i64 0, .int .i64 0] 41)) := by (repeat first | with_reducible exact Below.refl _ _ | (with_reducible refine Below.alloc ?_ ?_ _; rotate_left; exact (by omega)))
 have sW0 : w.heap.size < (w.alloc (.cells #[.int .i64 0, .int .i64 0] 41)).heap.size := by simp only [World.size_alloc]; omega
 obtain ⟨W0, hW0⟩ : ∃ W, (w.alloc (.cells #[.int .i64 0, .int .i64 0] 41)) = W := ⟨_, rfl⟩
 rw [hW0] at Ft hB0 sW0 ⊢
 clear hW0
 have t0 := Ft.out.cell 0 (.int .i64 0) rfl
 have tf0 := Ft.out.mark 0 (by simp)
 have t1 := Ft.out.cell 1 (.int .i64 0) rfl
 have tf1 := Ft.out.mark 1 (by simp)
 go_wp2_with fail
 refine (possible_any _ _ _).mono ?_
 rintro e w1 ⟨rfl, hb⟩
 clear t0 tf0 t1 tf1
 have Gt := Lib.hid (Ft.out.below hb)
 clear Ft
 have Ft := Lib.hid Gt.out
 clear Gt
 have t0 := Ft.out.cell 0 (.int .i64 0) rfl
 have tf0 := Ft.out.mark 0 (by simp)
 have t1 := Ft.out.cell 1 (.int .i64 0) rfl
 have tf1 := Ft.out.mark 1 (by simp)
 have hB1 := hB0.trans (hb.mono hB0.size)
 have hz1 : w.heap.size < w1.heap.size := Nat.lt_of_lt_of_le sW0 hb.size
 clear hb hB0 sW0
 rw [show possL 0 1000000 = (0, 1000000) from rfl]
 go_upto_region 2 with (fail)
 have Fa : Hid (RowL (w1.heap.size) [.int .i64 0, .int .i64 1000000] (w1.alloc (.cells #[.int .i64 0, .int .i64 1000000] 41))) := Lib.hid (by have h := RowL.new w1 #[.int .i64 0, .int .i64 1000000] 41; (try simp only [World.size_alloc] at h); exact h)
 have hb2 : Below w1.heap.size w1 (w1.alloc (.cells #[.int .i64 0, .int .i64 1000000] 41)) := by (repeat first | with_reducible exact Below.refl _ _ | (with_reducible refine Below.alloc ?_ ?_ _; rotate_left; exact (by omega)))
 have sW2 : w1.heap.size < (w1.alloc (.cells #[.int .i64 0, .int .i64 1000000] 41)).heap.size := by simp only [World.size_alloc]; omega
 obtain ⟨W2, hW2⟩ : ∃ W, (w1.alloc (.cells #[.int .i64 0, .int .i64 1000000] 41)) = W := ⟨_, rfl⟩
 rw [hW2] at Fa hb2 sW2 ⊢
 clear hW2
 clear t0 tf0 t1 tf1
 have Gt := Lib.hid (Ft.out.below hb2)
 clear Ft
 have Ft := Lib.hid Gt.out
 clear Gt
 have t0 := Ft.out.cell 0 (.int .i64 0) rfl
 have tf0 := Ft.out.mark 0 (by simp)
 have t1 := Ft.out.cell 1 (.int .i64 0) rfl
 have tf1 := Ft.out.mark 1 (by simp)
 clear t0 tf0 t1 tf1
 have hB2 := hB1.trans (hb2.mono hB1.size)
 clear hb2
 go_wp2_with fail
 go_loopw [12] (fun i wr => ∃ (j : Nat) (lo hi : Int), j ≤ n ∧ i = .int .i64 j ∧ Hid (commGo lo hi (zs.drop j) = (g1, g2, g3)) ∧ RowL w.heap.size [.int .i64 0, .int .i64 0] wr ∧ RowL w1.heap.size [.int .i64 lo, .int .i64 hi] wr ∧ Below w.heap.size w wr) (fun i _ => n - (intOf i).toNat)
 case atStart => exact ⟨0, 0, 1000000, Nat.zero_le _, rfl, HG, Ft.out, Fa.out, hB2⟩
 case round =>
  obtain ⟨j, lo, hi, hj, rfl, hG, hRt, hRa, hB⟩ := hrel
  have sz := hB.size
  have a0 := hRa.cell 0 (.int .i64 lo) rfl
  have a1 := hRa.cell 1 (.int .i64 hi) rfl
  have t0 := hRt.cell 0 (.int .i64 0) rfl
  have t1 := hRt.cell 1 (.int .i64 0) rfl
  have af0 := hRa.mark 0 (by simp)
  have af1 := hRa.mark 1 (by simp)
  have tf0 := hRt.mark 0 (by simp)
  have tf1 := hRt.mark 1 (by simp)
  have al := hRa.lt
  have hzr : w.heap.size < wr.heap.size := by omega
  have HRt := Lib.hid hRt
  have HRa := Lib.hid hRa
  clear hRt hRa
  by_cases hlt : j < n
  ·obtain ⟨-, hcf⟩ := HI.out.below hB
   obtain ⟨bf, of, rfl, hbf, hcf⟩ := hcf (by omega)
   obtain ⟨s, hs⟩ : ∃ s, zs[j]? = some s := ⟨_, List.getElem?_eq_getElem (by omega)⟩
   have e0 : wr.cell? ⟨bf, of + j * 2, none⟩ = some (.int .i64 s.lo) := by have h := hcf j s hs 0 _ rfl; simpa using h
   have e1 : wr.cell? ⟨bf, of + j * 2 + 1, none⟩ = some (.int .i64 s.hi) := by have h := hcf j s hs 1 _ rfl; simpa using h
   have HS := Lib.hid ((commGo_drop hs lo hi).symm.trans hG.out)
   have HM := Lib.hid (fun W => meet9_any lo hi s.lo s.hi W)
   obtain ⟨xl, xh⟩ := s
   dsimp only at e0 e1 HS HM
   generalize meetL lo hi xl xh = T at *
   obtain ⟨m1, m2, m3⟩ := T
   dsimp only at HS HM
   have jn : ((j : Int)).toNat = j := by omega
   have j0 : (0 : Int) ≤ j := by omega
   clear hcf hs hG
   go_wp2_with fail
   refine (HM.out _).mono ?_
   rintro e w2 ⟨rfl, hb⟩
   have hbr : Below wr.heap.size wr w2 := Below.trans (by (repeat first | with_reducible exact Below.refl _ _ | (with_reducible refine Below.alloc ?_ ?_ _; rotate_left; exact (by omega)))) (hb.mono (by ((try simp only [World.size_alloc, World.size_setCell, size_drew, size_drewN]); omega)))
   have hB2 := hB.trans (hbr.mono hB.size)
   have hRt2 := HRt.out.below hbr
   have hRa2 := HRa.out.below hbr
   clear a0 a1 t0 t1 af0 af1 tf0 tf1 e0 e1
   have a0 := hRa2.cell 0 (.int .i64 lo) rfl
   have a1 := hRa2.cell 1 (.int .i64 hi) rfl
   have t0 := hRt2.cell 0 (.int .i64 0) rfl
   have t1 := hRt2.cell 1 (.int .i64 0) rfl
   have af0 := hRa2.mark 0 (by simp)
   have af1 := hRa2.mark 1 (by simp)
   have tf0 := hRt2.mark 0 (by simp)
   have tf1 := hRt2.mark 1 (by simp)
   have al2 := hRa2.lt
   have sz2 := hB2.size
   have hz2 : w.heap.size < w2.heap.size := by omega
   have HRt2 := Lib.hid hRt2
   have HRa2 := Lib.hid hRa2
   clear hRt2 hRa2 hb hbr HRt HRa HM
   by_cases hm : m3 = 0
   ·subst hm
    have HN := Lib.hid (HS.out)
    rw [if_pos rfl] at HN
    clear HS
    go_wp2_with fail
    go_roundw
    case rel => exact ⟨j + 1, m1, m2, by omega, by go_num, HN, by first | exact (((HRt2.out.alloc _).far (by dsimp only; omega) _).far (by dsimp only; omega) _) | exact (((HRt2.out.far (by dsimp only; omega) _).far (by dsimp only; omega) _).alloc _), by first | exact ((HRa2.out.alloc _).put 0 _ (by simp)).put 1 _ (by simp) | exact ((HRa2.out.put 0 _ (by simp)).put 1 _ (by simp)).alloc _, by (repeat first | with_reducible assumption | (with_reducible refine Below.setCell ?_ ?_ _; rotate_left; exact (by (simp; omega))) | (with_reducible refine Below.alloc ?_ ?_ _; rotate_left; exact (by (simp; omega))))⟩
    case measure => simp [intOf]; omega
   ·have hmb : (m3 != 0) = true := by rw [bne_iff_ne]; exact hm
    have HN := Lib.hid HS.out
    rw [if_neg hm] at HN
    have hN := HN.out
    obtain ⟨rfl, h2⟩ := Prod.mk.inj hN
    obtain ⟨rfl, rfl⟩ := Prod.mk.inj h2
    clear HS HN hN h2 hm
    go_wp2_with fail
    exact bodyPost_ret (res3p Tryz.results44 _ _ _ _ _ _ rfl rfl (by go_simp) (by go_simp)) rfl ⟨rfl, by (repeat first | with_reducible assumption | (with_reducible refine Below.setCell ?_ ?_ _; rotate_left; exact (by (simp; done))) | (with_reducible refine Below.alloc ?_ ?_ _; rotate_left; exact (by (simp; omega))))⟩
  ·have hN := hG.out
   rw [List.drop_of_length_le (by omega)] at hN
   obtain ⟨rfl, h2⟩ := Prod.mk.inj hN
   obtain ⟨rfl, rfl⟩ := Prod.mk.inj h2
   clear hN h2 hG
   go_wp2_with fail
   exact bodyPost_ret (res3 Tryz.results44 _ _ _ _ _ _ rfl rfl (by (try simp only [isSome_setCell]); first | assumption | go_simp) (by (try simp only [isSome_setCell]); first | assumption | go_simp)) rfl ⟨rfl, by (repeat first | with_reducible assumption | (with_reducible refine Below.setCell ?_ ?_ _; rotate_left; exact (by (simp; done))))⟩
end
section
open Go.RowKit Go.Shelf
attribute [local go_sem] Oper.semAt_some
end
section
open Go.RowKit Go.Shelf
end
section
open Go.RowKit Go.Shelf
end
section
open Go.RowKit Go.Shelf
def candF (M : MachD) (C : CurD) (zs : List SpanD) (k : Nat) : Option (Int × Int × Int) :=
 if (commL (clL M (bgL M C) zs (k : Int))).2.2 = true then some ((k : Int), (commL (clL M (bgL M C) zs (k : Int))).1, (commL (clL M (bgL M C) zs (k : Int))).2.1) else none
def candL (M : MachD) (C : CurD) (zs : List SpanD) : List (Int × Int × Int) := (List.range C.plasma.length).filterMap (candF M C zs)
def candZ (M : MachD) (C : CurD) (zs : List SpanD) : List (Int × Int × Int) := if explB M C zs = true then candL M C zs else []
def candE (M : MachD) (C : CurD) (zs : List SpanD) : Int := if explB M C zs = true then 0 else 1
theorem filter_snoc {β : Type} (f : Nat → Option β) (j : Nat) : (List.range (j + 1)).filterMap f = (List.range j).filterMap f ++ (match f j with | some x => [x] | none => []) := by
 rw [List.range_succ, List.filterMap_append]
 cases h : f j <;> simp [h]
end
section
open Go.RowKit Go.Shelf
attribute [local go_sem] Oper.semAt_some
end
end Go.Proofs.YtapldonpflgnfaaGreatDoor
