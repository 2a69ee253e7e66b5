import Derived.Test.YtcjndnadibbcbaaGreatJAP
import Derived.Test.YtcjndnadibbcbaaGreatJBI
import Derived.Test.YtcjndnadibbcbaaGreatRows
import Derived.KernelRfl
import Derived.Laws.StructEq
section
/- Package circuit: Applied, Induced, Quench, over this seat's translation (written by ax_ci20.py). -/
namespace Go.Proofs.YtcjndnadibbcbaaGreat
set_option linter.unusedVariables false
set_option linter.unusedSimpArgs false
open Go.RowKit

def OutL (w : World) (k : Int) (zs : List Int) (e : Ending) (w' : World) : Prop :=
  ∃ (A : Option Addr) (n c : Nat), e = .returned (.tuple #[.slice A n c, .int .i64 k]) ∧ IsT 1 intCells w' A n (if k = 0 then zs else []) ∧ (∀ b o, A = some ⟨b, o, none⟩ → w.heap.size ≤ b) ∧ n ≤ 1000000 ∧ Below w.heap.size w w'
theorem OutL.bad {w w' : World} {k : Int} {zs : List Int} (hk : k ≠ 0) (hb : Below w.heap.size w w') : OutL w k zs (.returned (.tuple #[.slice none 0 0, .int .i64 k])) w' :=
  ⟨none, 0, 0, rfl, by rw [if_neg hk]; exact ⟨rfl, fun h => absurd h (by omega)⟩, (fun b o e => by cases e), by omega, hb⟩
theorem OutL.ok {w w' : World} {A : Option Addr} {n c : Nat} {zs : List Int} (hN : NewT 1 intCells w.heap.size w' A n c zs) (hn : n ≤ 1000000) (hb : Below w.heap.size w w') : OutL w 0 zs (.returned (.tuple #[.slice A n c, .int .i64 0])) w' :=
  ⟨A, n, c, rfl, by rw [if_pos rfl]; exact hN.isT, hN.new, hn, hb⟩
def applE (M : MachD) (S : StD) (ch : List Int) : Int := if validS M S = true ∧ validCh M ch 1000000000000000 = true then 0 else 1
def indE (M : MachD) (S : StD) (co pl : List Int) : Int := if validS M S = true ∧ validC M ⟨co, zerosI M.shells.length, pl⟩ = true then 0 else 1
set_option maxRecDepth 100000 in
theorem capplied_any (R : MachR) (M : MachD) (RS : StR) (S : StD) (A1 : Option Addr) (l1 c1 : Nat) (ch : List Int) (w : World) (hM : IsM w R M) (hS : IsS w RS S) (i1 : IsT 1 intCells w A1 l1 ch) : Calls Tryz.prog 10 #[(.agg (machCells R M)), (RS.v S.tick), (.slice A1 l1 c1)] w (OutL w (applE M S ch) (appL M S ch)) := by
  refine calls_ax (vs := [(.agg (machCells R M)), (RS.v S.tick), (.slice A1 l1 c1)]) Tryz.func10 rfl rfl ?_
  refine ac_seq ?_
  refine ac_region ?_
  refine al_new (fun b => .pointer (some ⟨b, 0, none⟩)) (r_box rfl rfl) rfl rfl rfl ?_
  intro b1
  refine al_new (fun b => .pointer (some ⟨b, 0, none⟩)) (r_box rfl rfl) rfl rfl rfl ?_
  intro b2
  refine al_q (q_assign rfl) rfl rfl rfl ?_
  refine al_q (q_assign rfl) rfl rfl rfl ?_
  refine al_end ?_
  refine aq_then ?_
  refine ac_seq ?_
  refine ac_seq ?_
  refine ac_region ?_
  refine al_q (q_loadAll (i := 1) rfl rfl Tryz.isAgg29 Tryz.sizeOf29 rfl) rfl rfl rfl ?_
  refine al_q (q_loadAll (i := 0) rfl rfl Tryz.isAgg35 Tryz.sizeOf35 rfl) rfl rfl rfl ?_
  refine al_call Tryz.call29 (.cons rfl (.cons rfl .nil)) rfl rfl (fun w1 hs1 => ?_)
  refine (validState_any R M RS S _ (hM.below hs1.below) (hS.below hs1.below)).mono ?_
  rintro e u1 ⟨rfl, hb_1⟩
  refine ⟨_, rfl, hb_1, ?_⟩
  clear hs1
  refine al_q (q_not rfl) rfl rfl rfl ?_
  refine al_q (q_move rfl) rfl rfl rfl ?_
  refine aq_split 12 rfl (fun hb1 => ?_) (fun hb1 => ?_)
  · have hE : applE M S ch = 1 := if_neg (fun h => by rw [h.1] at hb1; cases hb1)
    refine al_skip rfl rfl rfl ?_
    refine al_skip rfl rfl rfl ?_
    refine al_skip rfl rfl rfl ?_
    refine al_skip rfl rfl rfl ?_
    refine al_q (q_pickT rfl rfl) rfl rfl rfl ?_
    refine al_end ?_
    refine aq_then ?_
    refine ac_condT rfl ?_
    refine ac_seq ?_
    refine ac_region ?_
    refine al_q (q_assign rfl) rfl rfl rfl ?_
    refine al_q (q_assign rfl) rfl rfl rfl ?_
    refine al_end ?_
    refine aq_then ?_
    refine ac_ret ?_
    refine aq_thenR ?_
    refine ret2 Tryz.results10 rfl rfl (fun w9 hs => ?_)
    rw [hE]; exact OutL.bad (by decide) hs.below
  · have hv : validS M S = true := by simpa using hb1
    have hf := fitS_iff.1 hv
    obtain ⟨s1, s2⟩ := smallC hM hf.cur.check
    refine al_q (q_loadAll (i := 1) rfl rfl Tryz.isAgg29 Tryz.sizeOf29 rfl) rfl rfl rfl ?_
    refine al_q (q_move rfl) rfl rfl rfl ?_
    refine al_call Tryz.call30 (.cons rfl (.cons rfl .nil)) rfl rfl (fun w2 hs2 => ?_)
    refine (validChange_any R M A1 l1 c1 ch _ (hM.below hs2.below) (i1.below hs2.below)).mono ?_
    rintro e u2 ⟨rfl, hb_2⟩
    refine ⟨_, rfl, hb_2, ?_⟩
    clear hs2
    refine al_q (q_not rfl) rfl rfl rfl ?_
    refine al_q (q_pickF rfl rfl) rfl rfl rfl ?_
    refine al_end ?_
    refine aq_then ?_
    refine ac_cond rfl (fun h1 => ?_) (fun h1 => ?_)
    · have hE : applE M S ch = 1 := if_neg (fun h => by rw [h.2] at h1; cases h1)
      refine ac_seq ?_
      refine ac_region ?_
      refine al_q (q_assign rfl) rfl rfl rfl ?_
      refine al_q (q_assign rfl) rfl rfl rfl ?_
      refine al_end ?_
      refine aq_then ?_
      refine ac_ret ?_
      refine aq_thenR ?_
      refine ret2 Tryz.results10 rfl rfl (fun w9 hs => ?_)
      rw [hE]; exact OutL.bad (by decide) hs.below
    · have hd : validCh M ch 1000000000000000 = true := by simpa using h1
      have hE : applE M S ch = 0 := if_pos ⟨hv, hd⟩
      refine ac_skip ?_
      refine aq_then ?_
      refine ac_seq ?_
      refine ac_region ?_
      refine al_q (q_loadAll (i := 1) rfl rfl Tryz.isAgg29 Tryz.sizeOf29 rfl) rfl rfl rfl ?_
      refine al_q (q_loadAll (i := 0) rfl rfl Tryz.isAgg35 Tryz.sizeOf35 rfl) rfl rfl rfl ?_
      refine al_q (q_move rfl) rfl rfl rfl ?_
      refine al_call Tryz.call31 (.cons rfl (.cons rfl (.cons rfl .nil))) rfl rfl (fun w3 hs3 => ?_)
      refine (applied_any R M RS S A1 l1 c1 ch _ (hM.below hs3.below) (hS.below hs3.below) hf (i1.below hs3.below) hd).mono ?_
      rintro e u3 ⟨A9, c9, rfl, N9, hb_3⟩
      refine ⟨_, rfl, hb_3, ?_⟩
      clear hs3
      refine al_q (q_assign rfl) rfl rfl rfl ?_
      refine al_q (q_assign rfl) rfl rfl rfl ?_
      refine al_end ?_
      refine aq_then ?_
      refine ac_ret ?_
      refine ret2 Tryz.results10 rfl rfl (fun w9 hs => ?_)
      rw [hE]; exact OutL.ok (hs.newT2 (.head _) N9) (by omega) hs.below

set_option maxRecDepth 100000 in
theorem cinduced_any (R : MachR) (M : MachD) (RS : StR) (S : StD) (A1 A2 : Option Addr) (l1 c1 l2 c2 : Nat) (ch pl : List Int) (w : World) (hM : IsM w R M) (hS : IsS w RS S) (i1 : IsT 1 intCells w A1 l1 ch) (i2 : IsT 1 intCells w A2 l2 pl) (k1 : l1 ≤ c1 ∧ c1 ≤ 9223372036854775807) (k2 : l2 ≤ c2 ∧ c2 ≤ 9223372036854775807) : Calls Tryz.prog 13 #[(.agg (machCells R M)), (RS.v S.tick), (.slice A1 l1 c1), (.slice A2 l2 c2)] w (OutL w (indE M S ch pl) (indL M ch (subL pl S.C.plasma))) := by
  refine calls_ax (vs := [(.agg (machCells R M)), (RS.v S.tick), (.slice A1 l1 c1), (.slice A2 l2 c2)]) Tryz.func13 rfl rfl ?_
  refine ac_seq ?_
  refine ac_region ?_
  refine al_new (fun b => .pointer (some ⟨b, 0, none⟩)) (r_box rfl rfl) rfl rfl rfl ?_
  intro b1
  refine al_new (fun b => .pointer (some ⟨b, 0, none⟩)) (r_box rfl rfl) rfl rfl rfl ?_
  intro b2
  refine al_q (q_assign rfl) rfl rfl rfl ?_
  refine al_q (q_assign rfl) rfl rfl rfl ?_
  refine al_end ?_
  refine aq_then ?_
  refine ac_seq ?_
  refine ac_seq ?_
  refine ac_region ?_
  refine al_q (q_loadAll (i := 1) rfl rfl Tryz.isAgg29 Tryz.sizeOf29 rfl) rfl rfl rfl ?_
  refine al_q (q_loadAll (i := 0) rfl rfl Tryz.isAgg35 Tryz.sizeOf35 rfl) rfl rfl rfl ?_
  refine al_call Tryz.call29 (.cons rfl (.cons rfl .nil)) rfl rfl (fun w1 hs1 => ?_)
  refine (validState_any R M RS S _ (hM.below hs1.below) (hS.below hs1.below)).mono ?_
  rintro e u1 ⟨rfl, hb_1⟩
  refine ⟨_, rfl, hb_1, ?_⟩
  clear hs1
  refine al_q (q_not rfl) rfl rfl rfl ?_
  refine al_q (q_move rfl) rfl rfl rfl ?_
  refine aq_split 14 rfl (fun hb1 => ?_) (fun hb1 => ?_)
  · have hE : indE M S ch pl = 1 := if_neg (fun h => by rw [h.1] at hb1; cases hb1)
    refine al_skip rfl rfl rfl ?_
    refine al_skip rfl rfl rfl ?_
    refine al_skip rfl rfl rfl ?_
    refine al_skip rfl rfl rfl ?_
    refine al_skip rfl rfl rfl ?_
    refine al_q (q_pickT rfl rfl) rfl rfl rfl ?_
    refine al_end ?_
    refine aq_then ?_
    refine ac_condT rfl ?_
    refine ac_seq ?_
    refine ac_region ?_
    refine al_q (q_assign rfl) rfl rfl rfl ?_
    refine al_q (q_assign rfl) rfl rfl rfl ?_
    refine al_end ?_
    refine aq_then ?_
    refine ac_ret ?_
    refine aq_thenR ?_
    refine ret2 Tryz.results13 rfl rfl (fun w9 hs => ?_)
    rw [hE]; exact OutL.bad (by decide) hs.below
  · have hv : validS M S = true := by simpa using hb1
    have hf := fitS_iff.1 hv
    have hc := hf.cur.check
    obtain ⟨s1, s2⟩ := smallC hM hc
    refine al_q (q_loadAll (i := 1) rfl rfl Tryz.isAgg29 Tryz.sizeOf29 rfl) rfl rfl rfl ?_
    refine al_q (q_move rfl) rfl rfl rfl ?_
    refine al_q (q_move rfl) rfl rfl rfl ?_
    refine al_call Tryz.call35 (.cons rfl (.cons rfl (.cons rfl .nil))) rfl rfl (fun w2 hs2 => ?_)
    refine (validSources_any R M A1 A2 l1 c1 l2 c2 ch pl _ (hM.below hs2.below) (i1.below hs2.below) (i2.below hs2.below) k1 k2 (by omega)).mono ?_
    rintro e u2 ⟨rfl, hb_2⟩
    refine ⟨_, rfl, hb_2, ?_⟩
    clear hs2
    refine al_q (q_not rfl) rfl rfl rfl ?_
    refine al_q (q_pickF rfl rfl) rfl rfl rfl ?_
    refine al_end ?_
    refine aq_then ?_
    refine ac_cond rfl (fun h1 => ?_) (fun h1 => ?_)
    · have hE : indE M S ch pl = 1 := if_neg (fun h => by rw [h.2] at h1; cases h1)
      refine ac_seq ?_
      refine ac_region ?_
      refine al_q (q_assign rfl) rfl rfl rfl ?_
      refine al_q (q_assign rfl) rfl rfl rfl ?_
      refine al_end ?_
      refine aq_then ?_
      refine ac_ret ?_
      refine aq_thenR ?_
      refine ret2 Tryz.results13 rfl rfl (fun w9 hs => ?_)
      rw [hE]; exact OutL.bad (by decide) hs.below
    · have hd0 : validC M ⟨ch, zerosI M.shells.length, pl⟩ = true := by simpa using h1
      have hd := validSrc_iff.1 hd0
      have hE : indE M S ch pl = 0 := if_pos ⟨hv, hd0⟩
      have hd1 := validCh_iff.1 hd.1
      have n1 := hM.coils.1
      have n2 := i1.1
      have n3 := i2.1
      have n4 := hd.2.plasma.1
      have n5 := hf.cur.plasma.1
      have n6 := hS.cur.plasma.1
      have n7 := cellN_bd hc
      have n8 : (cellN M : Int) = M.grid.nr * M.grid.nz := by unfold cellN at n7 ⊢; omega
      have hdd : ∀ y ∈ ch ++ subL pl S.C.plasma, -2000000 ≤ y ∧ y ≤ 2000000 := fun y hy => (List.mem_append.1 hy).elim (fun h => by have := hd1.2 y h; omega) (fun h => by have := sub_all hf hd.2 y h; omega)
      refine ac_skip ?_
      refine aq_then ?_
      refine ac_seq ?_
      refine ac_draw 10 (by kernel_rfl) (by kernel_rfl) ?_
      refine ah_take 0 (fun w9 hs => hs) rfl rfl rfl (by kernel_rfl) (by kernel_rfl) (by kernel_rfl) (fun _ _ _ h => h) rfl (q_loadAll (i := 1) rfl rfl Tryz.isAgg29 Tryz.sizeOf29 rfl) ?_
      refine ah_take 2 (fun w9 hs => hs) rfl rfl rfl (by kernel_rfl) (by kernel_rfl) (by kernel_rfl) (fun _ _ _ h => h) rfl (q_move rfl) ?_
      refine ah_take 3 (fun w9 hs => hs) rfl rfl rfl (by kernel_rfl) (by kernel_rfl) (by kernel_rfl) (fun _ _ _ h => h) rfl (q_move rfl) ?_
      refine ah_take 4 (fun w9 hs => hs) rfl rfl rfl (by kernel_rfl) (by kernel_rfl) (by kernel_rfl) (fun _ _ _ h => h) rfl (q_fieldAddr 1 rfl Tryz.runUnderlying35 rfl Tryz.sizeOf32 (by decide) rfl) ?_
      refine ah_take 5 (fun w9 hs => hs) rfl rfl rfl (by kernel_rfl) (by kernel_rfl) (by kernel_rfl) (fun _ _ _ h => h) rfl (q_fieldAddr 3 rfl Tryz.runUnderlying32 rfl Tryz.sizeOf30 (by decide) rfl) ?_
      refine ah_take 6 (fun w9 hs => hs) rfl rfl rfl (by kernel_rfl) (by kernel_rfl) (by kernel_rfl) (fun _ _ _ h => h) rfl (q_load (i := 0) rfl rfl rfl Tryz.isAgg30) ?_
      refine ah_one 1 rfl (by kernel_rfl) (fun hok1 hcl1 => ?_)
      refine al_call Tryz.call36 (.cons rfl .nil) rfl rfl (fun w3 hs3 => ?_)
      refine (newCircuit_any R M _ (hM.below hs3.below) hc).mono ?_
      rintro e u3 ⟨Lk, cl, rows, rfl, NK, hb_3⟩
      refine ⟨_, rfl, hb_3, ?_⟩
      clear hs3
      refine al_end (ah_back hok1 hcl1 (fun w9 hs => (hs.fewer 1 rfl)) ?_)
      refine ah_one 7 rfl (by kernel_rfl) (fun hok2 hcl2 => ?_)
      refine al_call Tryz.call38 (.cons rfl (.cons rfl .nil)) rfl rfl (fun w4 hs4 => ?_)
      refine (differences_any A2 RS.Q.C l2 c2 RS.Q.lc RS.Q.cc pl S.C.plasma _ (i2.below hs4.below) (hS.cur.plasma.below hs4.below) (by omega) (by omega) (fun y hy => by have := hd.2.plasma.2 y hy; omega) (fun y hy => by have := hf.cur.plasma.2 y hy; omega)).mono ?_
      rintro e u4 ⟨A8, c8, rfl, N8, hb_4⟩
      refine ⟨_, rfl, hb_4, ?_⟩
      clear hs4
      refine al_end (ah_back hok2 hcl2 (fun w9 hs => (hs.fewer 2 rfl)) ?_)
      refine ah_one 8 rfl (by kernel_rfl) (fun hok3 hcl3 => ?_)
      refine al_call Tryz.call37 (.cons rfl (.cons rfl (.cons rfl .nil))) rfl rfl (fun w5 hs5 => ?_)
      refine (induced_any R M Lk cl rows A1 A8 l1 c1 l2 c8 ch (subL pl S.C.plasma) _ (hM.below hs5.below) hc (hs5.isK (.tail _ (.head _)) NK) (i1.below hs5.below) (hs5.newT (.head _) N8) (by omega) (by unfold cellN; omega) hdd).mono ?_
      rintro e u5 ⟨A9, c9, rfl, N9, hb_5⟩
      refine ⟨_, rfl, hb_5, ?_⟩
      clear hs5
      refine al_end (ah_back hok3 hcl3 (fun w9 hs => (hs.fewer 3 rfl)) ?_)
      refine ah_one 9 rfl (by kernel_rfl) (fun hok4 hcl4 => ?_)
      refine al_q (q_assign rfl) rfl rfl rfl ?_
      refine al_end (ah_back hok4 hcl4 (fun w9 hs => (hs.fewer 3 rfl)) ?_)
      refine ah_one 10 rfl (by kernel_rfl) (fun hok5 hcl5 => ?_)
      refine al_q (q_assign rfl) rfl rfl rfl ?_
      refine al_end (ah_last (by kernel_rfl) ?_)
      refine aq_then ?_
      refine ac_ret ?_
      refine ret2 Tryz.results13 rfl rfl (fun w9 hs => ?_)
      rw [hE]; exact OutL.ok (hs.newT2 (.head _) N9) (by omega) hs.below

end Go.Proofs.YtcjndnadibbcbaaGreat
end
section
/- Settle on both sides, over this seat's translation (written by ax_ci16.py). -/
namespace Go.Proofs.YtcjndnadibbcbaaGreat
set_option linter.unusedVariables false
set_option linter.unusedSimpArgs false
open Go.RowKit

end Go.Proofs.YtcjndnadibbcbaaGreat
end
section
/- The mirrored tick, as plain functions, over this seat's translation (written by ax_ci18.py). -/
namespace Go.Proofs.YtcjndnadibbcbaaGreat
set_option linter.unusedVariables false
set_option linter.unusedSimpArgs false
open Go.RowKit

theorem iA_eq (l : List Int) (k : Nat) : iA l k = l[k]?.getD 0 := by simp [iA, List.getD_eq_getElem?_getD]
theorem iA_app {co ce : List Int} (k : Nat) : iA (co ++ ce) (co.length + k) = iA ce k := by
  rw [iA_eq, iA_eq, List.getElem?_append_right (by omega), Nat.add_sub_cancel_left]
theorem iA_left {co ce : List Int} {k : Nat} (h : k < co.length) : iA (co ++ ce) k = iA co k := by
  rw [iA_eq, iA_eq, List.getElem?_append_left h]
end Go.Proofs.YtcjndnadibbcbaaGreat
end
