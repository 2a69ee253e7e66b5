import Derived.Test.YtjjajleiladbhaaGreatDoorLAO
import Derived.Test.YtjjajleiladbhaaGreatDoorLAQ
import Derived.Test.YtjjajleiladbhaaGreatDoorLAT
import Derived.Test.YtjjajleiladbhaaGreatDoorLBB
import Derived.Test.YtjjajleiladbhaaGreatDoorLBD
import Derived.Test.YtjjajleiladbhaaGreatDoorRows
import Derived.KernelRfl
import Derived.Laws.StructEq
import Derived.ProofKit
import Derived.OpenShut
import Derived.SevenTiedAt
import Derived.LaidMore
import Derived.Stop.LaidErr
import Derived.ChangeMaps5
section
/- MachineInfluences: the law's walk, over this seat's translation (written by ax_li.py). -/
namespace Go.Proofs.YtjjajleiladbhaaGreatDoor
set_option linter.unusedVariables false
set_option linter.unusedSimpArgs false
open Go.RowKit

theorem infl_comm (a b c d : Int) : infl a b c d = infl c d a b := by
  unfold infl
  have e1 : (a - c) * (a - c) = (c - a) * (c - a) := by rw [show a - c = -(c - a) by omega, Int.neg_mul_neg]
  have e2 : (b - d) * (b - d) = (d - b) * (d - b) := by rw [show b - d = -(d - b) by omega, Int.neg_mul_neg]
  rw [e1, e2]
  by_cases h1 : nearB a b 1000 = true <;> by_cases h2 : nearB c d 1000 = true <;> simp [h1, h2]

theorem lwj_bl_apiCurrents_ : ∀ w, (Instr.build 34 #[]).run Tryz.prog w = .ok (.agg #[(.slice none 0 0), (.slice none 0 0), (.slice none 0 0)]) w := by
  intro w; simp [Instr.build, Instr.fill, cells_agg, Tryz.runUnderlying34, Tryz.zeroValue34, Tryz.sizeOf32]

set_option maxRecDepth 100000 in
theorem influences_walk (R : MachR) (M : MachD) (a0 a1 c0 c1 : Int) (W : World) (hE : Env W) (hM : R.la ≤ 1000000000000000 → R.lb ≤ 1000000000000000 → R.lc ≤ 1000000000000000 → R.ld ≤ 1000000000000000 → IsM W R M) : Calls Tryz.prog 5 #[(.agg (machCells R M)), (.agg #[.int .i64 a0, .int .i64 a1]), (.agg #[.int .i64 c0, .int .i64 c1])] W (Ret (.bool true) W) := by
  have hN0 : 0 ≤ cellsN M := by
    unfold cellsN; split
    · rename_i hc; have := cells_fine (sound_of hc).grid; omega
    · omega
  obtain ⟨n, hn⟩ : ∃ n : Nat, (n : Int) = cellsN M := ⟨(cellsN M).toNat, by omega⟩
  have hN : cellsN M ≤ 64 := by
    unfold cellsN; split
    · rename_i hc; have := cells_fine (sound_of hc).grid; omega
    · omega
  refine calls_ax (vs := [(.agg (machCells R M)), (.agg #[.int .i64 a0, .int .i64 a1]), (.agg #[.int .i64 c0, .int .i64 c1])]) Tryz.func5 rfl rfl ?_
  refine ac_seq ?_
  refine ac_region ?_
  refine al_new (fun b => .pointer (some ⟨b, 0, none⟩)) (r_box rfl rfl) rfl rfl rfl ?_
  intro b1
  refine al_new (fun b => .pointer (some ⟨b, 0, none⟩)) (r_box rfl rfl) rfl rfl rfl ?_
  intro b2
  refine al_new (fun b => .pointer (some ⟨b, 0, none⟩)) (r_box rfl rfl) rfl rfl rfl ?_
  intro b3
  refine al_q (q_assign rfl) rfl rfl rfl ?_
  refine al_end ?_
  refine aq_then ?_
  refine ac_seq ?_
  refine ac_seq ?_
  refine ac_draw 15 (by kernel_rfl) (by kernel_rfl) ?_
  refine ah_take 0 (fun w9 hs => hs) rfl rfl rfl (by kernel_rfl) (by kernel_rfl) (by kernel_rfl) (fun _ _ _ h => h) rfl (q_loadAll (i := 1) rfl rfl Tryz.isAgg40 Tryz.sizeOf40 rfl) ?_
  refine ah_take 1 (fun w9 hs => hs) rfl rfl rfl (by kernel_rfl) (by kernel_rfl) (by kernel_rfl) (fun _ _ _ h => h) rfl (q_loadAll (i := 0) rfl rfl Tryz.isAgg40 Tryz.sizeOf40 rfl) ?_
  refine ah_take 3 (fun w9 hs => hs) rfl rfl rfl (by kernel_rfl) (by kernel_rfl) (by kernel_rfl) (fun _ _ _ h => h) rfl (q_loadAll (i := 1) rfl rfl Tryz.isAgg40 Tryz.sizeOf40 rfl) ?_
  refine ah_take 4 (fun w9 hs => hs) rfl rfl rfl (by kernel_rfl) (by kernel_rfl) (by kernel_rfl) (fun _ _ _ h => h) rfl (q_loadAll (i := 0) rfl rfl Tryz.isAgg40 Tryz.sizeOf40 rfl) ?_
  refine ah_one 2 rfl (by kernel_rfl) (fun hok1 hcl1 => ?_)
  refine al_call Tryz.call30 (.cons rfl (.cons rfl .nil)) rfl rfl (fun w1 hs1 => ?_)
  refine (influence_any a0 a1 c0 c1 _).mono ?_
  rintro e u1 ⟨rfl, hb_1⟩
  refine ⟨_, rfl, hb_1, ?_⟩
  clear hs1
  refine al_end (ah_back hok1 hcl1 (fun w9 hs => (hs.fewer 1 rfl)) ?_)
  refine ah_one 5 rfl (by kernel_rfl) (fun hok2 hcl2 => ?_)
  refine al_call Tryz.call31 (.cons rfl (.cons rfl .nil)) rfl rfl (fun w2 hs2 => ?_)
  refine (rinfluence_any a0 a1 c0 c1 _).mono ?_
  rintro e u2 ⟨rfl, hb_2⟩
  refine ⟨_, rfl, hb_2, ?_⟩
  clear hs2
  refine al_end (ah_back hok2 hcl2 (fun w9 hs => (hs.fewer 2 rfl)) ?_)
  refine ah_take 6 (fun w9 hs => (hs.fewer 2 rfl)) rfl rfl rfl (by kernel_rfl) (by kernel_rfl) (by kernel_rfl) (fun _ _ _ h => h) rfl (q_same (v' := .bool false) (q_neq rfl rfl) (by simp)) ?_
  refine ah_take 7 (fun w9 hs => (hs.fewer 2 rfl)) rfl rfl rfl (by kernel_rfl) (by kernel_rfl) (by kernel_rfl) (fun _ _ _ h => h) rfl (q_move rfl) ?_
  refine ah_take 8 (fun w9 hs => (hs.fewer 2 rfl)) rfl rfl rfl (by kernel_rfl) (by kernel_rfl) (by kernel_rfl) (fun _ _ _ h => h) rfl (q_loadAll (i := 1) rfl rfl Tryz.isAgg40 Tryz.sizeOf40 rfl) ?_
  refine ah_take 9 (fun w9 hs => (hs.fewer 2 rfl)) rfl rfl rfl (by kernel_rfl) (by kernel_rfl) (by kernel_rfl) (fun _ _ _ h => h) rfl (q_loadAll (i := 0) rfl rfl Tryz.isAgg40 Tryz.sizeOf40 rfl) ?_
  refine ah_take 11 (fun w9 hs => (hs.fewer 2 rfl)) rfl rfl rfl (by kernel_rfl) (by kernel_rfl) (by kernel_rfl) (fun _ _ _ h => h) rfl (q_loadAll (i := 0) rfl rfl Tryz.isAgg40 Tryz.sizeOf40 rfl) ?_
  refine ah_take 12 (fun w9 hs => (hs.fewer 2 rfl)) rfl rfl rfl (by kernel_rfl) (by kernel_rfl) (by kernel_rfl) (fun _ _ _ h => h) rfl (q_loadAll (i := 1) rfl rfl Tryz.isAgg40 Tryz.sizeOf40 rfl) ?_
  refine ah_one 10 rfl (by kernel_rfl) (fun hok3 hcl3 => ?_)
  refine al_call Tryz.call30 (.cons rfl (.cons rfl .nil)) rfl rfl (fun w3 hs3 => ?_)
  refine (influence_any a0 a1 c0 c1 _).mono ?_
  rintro e u3 ⟨rfl, hb_3⟩
  refine ⟨_, rfl, hb_3, ?_⟩
  clear hs3
  refine al_end (ah_back hok3 hcl3 (fun w9 hs => (hs.fewer 3 rfl)) ?_)
  refine ah_one 13 rfl (by kernel_rfl) (fun hok4 hcl4 => ?_)
  refine al_call Tryz.call30 (.cons rfl (.cons rfl .nil)) rfl rfl (fun w4 hs4 => ?_)
  refine (influence_any c0 c1 a0 a1 _).mono ?_
  rintro e u4 ⟨rfl, hb_4⟩
  refine ⟨_, rfl, hb_4, ?_⟩
  clear hs4
  refine al_end (ah_back hok4 hcl4 (fun w9 hs => (hs.fewer 4 rfl)) ?_)
  refine ah_take 14 (fun w9 hs => (hs.fewer 4 rfl)) rfl rfl rfl (by kernel_rfl) (by kernel_rfl) (by kernel_rfl) (fun _ _ _ h => h) rfl (q_same (v' := .bool false) (q_neq rfl rfl) (by rw [infl_comm c0 c1 a0 a1]; simp)) ?_
  refine ah_take 15 (fun w9 hs => (hs.fewer 4 rfl)) rfl rfl rfl (by kernel_rfl) (by kernel_rfl) (by kernel_rfl) (fun _ _ _ h => h) rfl (q_pickF rfl rfl) ?_
  refine ah_done (by kernel_rfl) ?_
  refine aq_then ?_
  refine ac_condF rfl ?_
  refine ac_skip ?_
  refine aq_then ?_
  refine ac_seq ?_
  refine ac_seq ?_
  refine ac_region ?_
  refine al_q (q_loadAll (i := 2) rfl rfl Tryz.isAgg29 Tryz.sizeOf29 rfl) rfl rfl rfl ?_
  refine al_q (q_build .nil (lwj_bl_apiCurrents_)) rfl rfl rfl ?_
  refine al_call Tryz.call16 (.cons rfl (.cons rfl .nil)) rfl rfl (fun w5 hs5 => ?_)
  refine (brief2_any R M ⟨none, none, none, 0, 0, 0, 0, 0, 0⟩ _).mono ?_
  rintro e u5 ⟨rfl, hb_5⟩
  refine ⟨_, rfl, hb_5, ?_⟩
  clear hs5
  refine al_q (q_not rfl) rfl rfl rfl ?_
  refine al_end ?_
  refine aq_then ?_
  refine ac_cond rfl (fun h1 => ?_) (fun h1 => ?_)
  · skip
    refine ac_seq ?_
    refine ac_region ?_
    refine al_call Tryz.call19 .nil rfl rfl (fun w6 hs6 => ?_)
    refine (awake2_any _ (hE.below hs6.below)).mono ?_
    rintro e u6 ⟨rfl, hb_6⟩
    refine ⟨_, rfl, hb_6, ?_⟩
    clear hs6
    refine al_q (q_assign rfl) rfl rfl rfl ?_
    refine al_end ?_
    refine aq_then ?_
    refine ac_ret ?_
    refine aq_thenR ?_
    refine ret1 Tryz.results5 rfl (fun w9 hs => ?_)
    exact ⟨rfl, hs.below⟩
  · have hbf := brief2_iff.1 (show brief2 R ⟨none, none, none, 0, 0, 0, 0, 0, 0⟩ = true by simpa using h1)
    have hM := hM (by omega) (by omega) (by omega) (by omega)
    refine ac_skip ?_
    refine aq_then ?_
    refine ac_seq ?_
    refine ac_draw 5 (by kernel_rfl) (by kernel_rfl) ?_
    refine ah_take 0 (fun w9 hs => hs) rfl rfl rfl (by kernel_rfl) (by kernel_rfl) (by kernel_rfl) (fun _ _ _ h => h) rfl (q_loadAll (i := 2) rfl rfl Tryz.isAgg29 Tryz.sizeOf29 rfl) ?_
    refine ah_take 2 (fun w9 hs => hs) rfl rfl rfl (by kernel_rfl) (by kernel_rfl) (by kernel_rfl) (fun _ _ _ h => h) rfl (q_loadAll (i := 2) rfl rfl Tryz.isAgg29 Tryz.sizeOf29 rfl) ?_
    refine ah_one 1 rfl (by kernel_rfl) (fun hok5 hcl5 => ?_)
    refine al_call Tryz.call32 (.cons rfl .nil) rfl rfl (fun w7 hs7 => ?_)
    refine (kernel_any R M n _ (hM.below hs7.below) hn).mono ?_
    rintro e u7 ⟨A1, d1, rows1, rfl, NK1, hb_7⟩
    refine ⟨_, rfl, hb_7, ?_⟩
    clear hs7
    refine al_end (ah_back hok5 hcl5 (fun w9 hs => (hs.fewer 1 rfl)) ?_)
    refine ah_one 3 rfl (by kernel_rfl) (fun hok6 hcl6 => ?_)
    refine al_call Tryz.call33 (.cons rfl .nil) rfl rfl (fun w8 hs8 => ?_)
    refine (rkernel_any R M n _ (hM.below hs8.below) hn).mono ?_
    rintro e u8 ⟨A2, d2, rows2, rfl, NK2, hb_8⟩
    refine ⟨_, rfl, hb_8, ?_⟩
    clear hs8
    refine al_end (ah_back hok6 hcl6 (fun w9 hs => (hs.fewer 2 rfl)) ?_)
    refine ah_one 4 rfl (by kernel_rfl) (fun hok7 hcl7 => ?_)
    refine al_q (q_assign rfl) rfl rfl rfl ?_
    refine al_end (ah_back hok7 hcl7 (fun w9 hs => (hs.fewer 2 rfl)) ?_)
    refine ah_one 5 rfl (by kernel_rfl) (fun hok8 hcl8 => ?_)
    refine al_q (q_assign rfl) rfl rfl rfl ?_
    refine al_end (ah_last (by kernel_rfl) ?_)
    refine aq_then ?_
    refine ac_seq ?_
    refine ac_seq ?_
    refine ac_region ?_
    refine al_q (q_move rfl) rfl rfl rfl ?_
    refine al_q (q_lenS rfl Tryz.runUnderlying48) rfl rfl rfl ?_
    refine al_q (q_move rfl) rfl rfl rfl ?_
    refine al_q (q_lenS rfl Tryz.runUnderlying48) rfl rfl rfl ?_
    refine al_q (q_same (v' := .bool false) (q_neq rfl rfl) (by simp)) rfl rfl rfl ?_
    refine al_end ?_
    refine aq_then ?_
    refine ac_condF rfl ?_
    refine ac_skip ?_
    refine aq_then ?_
    refine ac_seq ?_
    refine ac_seq ?_
    refine ac_region ?_
    refine al_q (q_assign rfl) rfl rfl rfl ?_
    refine al_end ?_
    refine aq_then ?_
    refine ac_block ?_
    refine ac_loop (β := Nat) (fun k => k ≤ n) (fun k => [(6, (.bool false)), (7, (.slice A1 n d1)), (8, (.slice A2 n d2)), (9, (.int .i64 (k : Int)))]) (fun _ => _) (fun k => [(b3, _), (b2, _), (b1, _)]) (fun k => n - k) 0 (by omega) ⟨rfl, rfl, rfl, rfl, trivial⟩ (fun w9 hs => hs) (fun k hF1 => ?_)
    refine ac_seq ?_
    refine ac_seq ?_
    refine ac_region ?_
    refine al_q (q_move rfl) rfl rfl rfl ?_
    refine al_q (q_move rfl) rfl rfl rfl ?_
    refine al_q (q_lenS rfl Tryz.runUnderlying48) rfl rfl rfl ?_
    refine al_q (q_lss rfl rfl) rfl rfl rfl ?_
    refine al_end ?_
    refine aq_then ?_
    refine ac_cond rfl (fun h2 => ?_) (fun h2 => ?_)
    · have hkl : k < n := by have := of_decide_eq_true h2; omega
      obtain ⟨bo1, oo1, hA1, hlt1, hget1⟩ := NK1.out.isT.2 (by omega)
      obtain ⟨r1, hr1⟩ : ∃ r, rows1[k]? = some r := ⟨_, List.getElem?_eq_getElem (by rw [NK1.out.isT.1]; exact hkl)⟩
      obtain ⟨bo2, oo2, hA2, hlt2, hget2⟩ := NK2.out.isT.2 (by omega)
      obtain ⟨r2, hr2⟩ : ∃ r, rows2[k]? = some r := ⟨_, List.getElem?_eq_getElem (by rw [NK2.out.isT.1]; exact hkl)⟩
      refine ac_skip ?_
      refine aq_then ?_
      refine ac_seq ?_
      refine ac_block ?_
      refine ac_seq ?_
      refine ac_draw 9 (by kernel_rfl) (by kernel_rfl) ?_
      refine ah_take 0 (fun w9 hs => hs) rfl rfl rfl (by kernel_rfl) (by kernel_rfl) (by kernel_rfl) (fun _ _ _ h => h) rfl (q_move rfl) ?_
      refine ah_take 1 (fun w9 hs => hs) rfl rfl rfl (by kernel_rfl) (by kernel_rfl) (by kernel_rfl) (fun _ _ _ h => h) rfl (q_move rfl) ?_
      refine ah_take 2 (fun w9 hs => hs) rfl rfl rfl (by kernel_rfl) (by kernel_rfl) (by kernel_rfl) (fun _ _ _ h => h) rfl (q_indexAddrA (i := k) (oo1 + k * 1 + 0) hA1 rfl rfl rfl (by omega) Tryz.runUnderlying48 Tryz.sizeOf32 rfl) ?_
      refine ah_take 3 (fun w9 hs => hs) rfl rfl rfl (by kernel_rfl) (by kernel_rfl) (by kernel_rfl) (fun _ _ _ h => h) rfl (q_loadX rfl Tryz.isAgg32 (fun w9 hs => hs.cellOf (.tail _ (.head _)) (NK1.out.new _ _ hA1) hlt1 (hget1 k r1 hr1 0 _ rfl))) ?_
      refine ah_take 4 (fun w9 hs => hs) rfl rfl rfl (by kernel_rfl) (by kernel_rfl) (by kernel_rfl) (fun _ _ _ h => h) rfl (q_move rfl) ?_
      refine ah_take 5 (fun w9 hs => hs) rfl rfl rfl (by kernel_rfl) (by kernel_rfl) (by kernel_rfl) (fun _ _ _ h => h) rfl (q_move rfl) ?_
      refine ah_take 6 (fun w9 hs => hs) rfl rfl rfl (by kernel_rfl) (by kernel_rfl) (by kernel_rfl) (fun _ _ _ h => h) rfl (q_indexAddrA (i := k) (oo2 + k * 1 + 0) hA2 rfl rfl rfl (by omega) Tryz.runUnderlying48 Tryz.sizeOf32 rfl) ?_
      refine ah_take 7 (fun w9 hs => hs) rfl rfl rfl (by kernel_rfl) (by kernel_rfl) (by kernel_rfl) (fun _ _ _ h => h) rfl (q_loadX rfl Tryz.isAgg32 (fun w9 hs => hs.cellOf (.head _) (NK2.out.new _ _ hA2) hlt2 (hget2 k r2 hr2 0 _ rfl))) ?_
      refine ah_one 8 rfl (by kernel_rfl) (fun hok9 hcl9 => ?_)
      refine al_call Tryz.call34 (.cons rfl (.cons rfl .nil)) rfl rfl (fun w9 hs9 => ?_)
      refine (rsame_any r1.1 r2.1 n r1.2 n r2.2 (rowK M.grid n k) (rowK M.grid n k) _ (hs9.newT (.tail _ (.head _)) (NK1.row k r1 hr1)) (hs9.newT (.head _) (NK2.row k r2 hr2)) (by omega) (by omega)).mono ?_
      rintro e u9 ⟨rfl, hb_9⟩
      refine ⟨_, rfl, hb_9, ?_⟩
      clear hs9
      refine al_end (ah_back hok9 hcl9 (fun w9 hs => (hs.fewer 1 rfl)) ?_)
      refine ah_take 9 (fun w9 hs => (hs.fewer 1 rfl)) rfl rfl rfl (by kernel_rfl) (by kernel_rfl) (by kernel_rfl) (fun _ _ _ h => h) rfl (q_same (v' := .bool false) (q_not rfl) (by simp)) ?_
      refine ah_done (by kernel_rfl) ?_
      refine aq_then ?_
      refine ac_condF rfl ?_
      refine ac_skip ?_
      refine aq_inN ?_
      refine aq_then ?_
      refine ac_region ?_
      refine al_q (q_move rfl) rfl rfl rfl ?_
      refine al_q (q_add rfl rfl (by omega)) rfl rfl rfl ?_
      refine al_q (q_assign rfl) rfl rfl rfl ?_
      refine al_end ?_
      refine aq_then ?_
      skip
      refine aq_round (k + 1) (by omega) (by omega) ⟨rfl, rfl, rfl, rfl, trivial⟩ (fun w9 hs => (hs.fewer 1 rfl))
    · skip
      refine ac_exit ?_
      refine aq_thenE ?_
      refine aq_thenE ?_
      refine aq_hit ?_
      refine aq_then ?_
      refine ac_seq ?_
      refine ac_region ?_
      refine al_call Tryz.call19 .nil rfl rfl (fun w10 hs10 => ?_)
      refine (awake2_any _ (hE.below hs10.below)).mono ?_
      rintro e u10 ⟨rfl, hb_10⟩
      refine ⟨_, rfl, hb_10, ?_⟩
      clear hs10
      refine al_q (q_assign rfl) rfl rfl rfl ?_
      refine al_end ?_
      refine aq_then ?_
      refine ac_ret ?_
      refine ret1 Tryz.results5 rfl (fun w9 hs => ?_)
      exact ⟨rfl, hs.below⟩

end Go.Proofs.YtjjajleiladbhaaGreatDoor
end
section
/- The frame of the laws over machines: points, what the library's variables hold, the wrap with the world's shape kept, over this seat's translation (written by mk_f2.py). -/
namespace Go.Proofs.YtjjajleiladbhaaGreatDoor
set_option linter.unusedVariables false
set_option linter.unusedSimpArgs false
set_option maxRecDepth 100000
open Go.ChangeShapes Go.WideShapes Go.ChangeAt Go.RowKit Go.Joins Go.Shelf Go.ChangeMaps

section
variable {H : Type} {enc : TypeId × Value → H}
theorem cells_point : Tryz.prog.cellsOf 40 = 2 := by kernel_rfl
theorem open_point {r : Reach} {W : World} {base b0 : Nat} {spare : Nat → Bool} {held : Bool} {v : Value} {d : DataW H} {p : List MemPlace}
    (hv : Value.okWide Tryz.prog W r b0 40 v) (h : DataW.Trod enc Tryz.prog W base spare held 40 v d p) :
    ∃ lo hi : Int, v = .agg #[.int .i64 lo, .int .i64 hi] ∧ d = .agg [.lit (.int .i64 lo), .lit (.int .i64 hi)] ∧ p = [] ∧ (Lit.int .i64 lo).wf = true ∧ (Lit.int .i64 hi).wf = true := by
  obtain ⟨c0, c1, y0, y1, m, rfl, rfl, rfl, hy0, hy1⟩ := open_agg2 Tryz.underlying40 (by kernel_rfl) cells_point hv h
  obtain ⟨a, e0, rfl, wa⟩ := DataW.trod_int Tryz.underlying3 hy0
  obtain ⟨b, e1, rfl, wb⟩ := DataW.trod_int Tryz.underlying3 hy1
  simp at e0 e1
  subst e0 e1
  exact ⟨a, b, rfl, rfl, rfl, wa, wb⟩
theorem shut_point {W : World} {base : Nat} {spare : Nat → Bool} {held : Bool} {lo hi : Int} (wa : (Lit.int .i64 lo).wf = true) (wb : (Lit.int .i64 hi).wf = true) :
    DataW.Trod enc Tryz.prog W base spare held 40 (.agg #[.int .i64 lo, .int .i64 hi]) (.agg [.lit (.int .i64 lo), .lit (.int .i64 hi)]) [] :=
  shut_agg2 (y0 := (.lit (.int .i64 lo), [])) (y1 := (.lit (.int .i64 hi), [])) Tryz.underlying40 (by kernel_rfl) cells_point ⟨1, by simp [DataW.trod, Tryz.underlying3, wa]⟩ ⟨1, by simp [DataW.trod, Tryz.underlying3, wb]⟩
theorem wf_bd {n : Int} (h : (Lit.int .i64 n).wf = true) : -9223372036854775808 ≤ n ∧ n ≤ 9223372036854775807 := by
  have h1 : (decide (IntKind.i64.min ≤ n) && decide (n ≤ IntKind.i64.max)) = true := h
  rw [Bool.and_eq_true, decide_eq_true_eq, decide_eq_true_eq] at h1
  have e1 : IntKind.i64.min = -9223372036854775808 := by decide
  have e2 : IntKind.i64.max = 9223372036854775807 := by decide
  rw [e1, e2] at h1
  exact h1

/-- The wrap of a changing row under a condition on what is laid, the world's shape handed on. -/
theorem returns2 {a : Assume} {C : Checked} {os : Os} {f : FuncId} {fn : Func} {s : ChangeSpec} {conds : List PathCond} {apart fresh handsOn again : Bool} {X : World → Array Value → Prop}
    (hX : ∀ (w w' : World) (args : Array Value), w.heap = w'.heap → X w args → X w' args)
    (own : ownKnob C.prog.godebug = none) (started : os.Started) (noInit : C.prog.inits.idxOf? f = none) (hfn : C.prog.funcs[f]? = some fn)
    (witness : ∃ (w : World) (tape : Tape) (i : Input), w.os = os ∧ (w.forCall tape i).Shaped C.prog ∧ i.vars = [] ∧ Input.okWide C.prog (w.forCall tape i) .any w.heap.size f i ∧
      ((s.pre enc C.prog fn conds apart (w.forCall tape i).memory i.args ∧ X (w.forCall tape i).memory i.args) ∧ sizedMet enc C.prog fn (OpenSpec.ofChange s) apart (w.forCall tape i).memory i.args) ∧ a.holds C.prog (lone (Frame.enter C.prog f i.args .normal) [] (w.forCall tape i)))
    (contract : ∀ (W : World) (base : Nat) (args : Array Value) (ds gs : List (DataW H)) (before : List MemPlace),
      (∀ (j : Nat) t v, fn.params[j]? = some t → args[j]? = some v → Value.okWide C.prog W .any base t v) →
      DataW.Whole enc C.prog fn.params.toList s.vars apart W args.toList ds gs before → X W args → W.ShapedOpen C.prog →
      Calls C.prog f args W fun e W' => ∃ v, e = .returned v ∧ s.post enc C.prog fn apart fresh handsOn again W args v W') :
    ReturnsInHanded a C os f .any (fun w args => (s.pre enc C.prog fn conds apart w args ∧ X w args) ∧ sizedMet enc C.prog fn (OpenSpec.ofChange s) apart w args) (s.post enc C.prog fn apart fresh handsOn again) := by
  refine returnsInHanded_of_calls own started noInit witness ?_
  intro w tape i _ hsh _ hok hpre hholds
  obtain ⟨_, _, _, fn', hfn', _, _, _, _, hval⟩ := hok
  have e : fn' = fn := Option.some.inj (hfn'.symm.trans hfn)
  subst e
  obtain ⟨⟨⟨ds, gs, before, hw, hc⟩, hx⟩, hz⟩ := hpre
  have hw' := DataW.Whole.of_heap (w' := w.forCall tape i) (by rfl) hw
  refine (contract (w.forCall tape i) w.heap.size i.args ds gs before hval hw' (hX _ _ _ (by rfl) hx) hsh).mono fun e W' ⟨v, he, hp⟩ => ?_
  subst he
  exact ChangeSpec.post_blind hp
end

theorem gES : Tryz.prog.globalNamed "strconv.ErrSyntax" = some 4 := by kernel_rfl
theorem gER : Tryz.prog.globalNamed "strconv.ErrRange" = some 5 := by kernel_rfl
theorem cellsE : Tryz.prog.cellsOf 225 = 1 := by kernel_rfl
theorem cellsS : Tryz.prog.cellsOf 9 = 1 := by kernel_rfl
theorem star : "*" ++ "errors.errorString" = "*errors.errorString" := by decide
theorem rowE (u : TypeId) (h : Tryz.prog.typeName? 3 u = some "*errors.errorString") : u = 223 :=
  typeName_ptr_named (nm := "errors.errorString") (by rw [star]; kernel_rfl) (by kernel_rfl) (by decide) u (by rw [star]; exact h)

end Go.Proofs.YtjjajleiladbhaaGreatDoor
end
