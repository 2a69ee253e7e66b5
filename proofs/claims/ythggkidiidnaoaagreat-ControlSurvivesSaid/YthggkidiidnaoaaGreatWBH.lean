import Derived.Test.YthggkidiidnaoaaGreatWAA
import Derived.Test.YthggkidiidnaoaaGreatWAV
import Derived.Test.YthggkidiidnaoaaGreatWAW
import Derived.Test.YthggkidiidnaoaaGreatWAX
import Derived.Test.YthggkidiidnaoaaGreatWBA
import Derived.Test.YthggkidiidnaoaaGreatWBG
import Derived.Test.YthggkidiidnaoaaGreatRows
import Derived.KernelRfl
import Derived.Laws.StructEq
namespace Go.Proofs.YthggkidiidnaoaaGreat
set_option linter.unusedVariables false
set_option linter.unusedSimpArgs false
section
open Go.RowKit
def sameS (S T : StD) : Prop := S.tick = T.tick ∧ (S.C.coils = T.C.coils ∧ S.C.shells = T.C.shells ∧ S.C.plasma = T.C.plasma) ∧ S.heat = T.heat ∧ S.trip = T.trip
instance (S T : StD) : Decidable (sameS S T) := inferInstanceAs (Decidable (_ ∧ (_ ∧ _ ∧ _) ∧ _ ∧ _))
end
section
open Go.RowKit
def zeroSD : StD := ⟨0, ⟨[], [], []⟩, [], []⟩
theorem zero_isS (w : World) : IsS w zeroR zeroSD := by
 have h : ∀ {α : Type} {enc : α → List Value}, IsT 1 enc w none 0 ([] : List α) := fun {α} {enc} => ⟨rfl, fun h => absurd h om9⟩
 exact ⟨⟨h, h, h, Nat.le_refl _, Nat.le_refl _, Nat.le_refl _, by decide, by decide, by decide, by decide, by decide, by decide⟩, h, h, Nat.le_refl _, Nat.le_refl _, by decide, by decide, by decide, by decide⟩
def endD (k : Int) (D : StD) : StD := if k = 0 then D else zeroSD
theorem outS_data {wi u : World} {k : Int} {D : StD} {x : StR} {n : Int} (h1 : k = 0 → n = D.tick ∧ IsS u x D ∧ x.All (fun b => wi.heap.size ≤ b)) (h2 : k ≠ 0 → n = 0 ∧ x = zeroR) : n = (endD k D).tick ∧ IsS u x (endD k D) ∧ x.All (fun b => wi.heap.size ≤ b) := by
 unfold endD
 split
 ·rename_i h; exact h1 h
 ·rename_i h
  obtain ⟨rfl, rfl⟩ := h2 h
  exact ⟨rfl, zero_isS u, ⟨(fun b o e => by cases e), (fun b o e => by cases e), (fun b o e => by cases e), (fun b o e => by cases e), (fun b o e => by cases e)⟩⟩
end
section
open Go.RowKit
end
section
open Go.RowKit
end
section
open Go.RowKit
def OutL (w : World) (k : Int) (zs : List Int) (e : Ending) (w' : World) : Prop :=
 ∃ (A : Option Addr) (n c : Nat), e = .returned (.tuple #[.slice A n c, .int .i64 k]) ∧ IsT 1 intCells w' A n (if k = 0 then zs else []) ∧ (∀ b o, A = some ⟨b, o, none⟩ → w.heap.size ≤ b) ∧ n ≤ 1000000 ∧ Below w.heap.size w w'
theorem OutL.bad {w w' : World} {k : Int} {zs : List Int} (hk : k ≠ 0) (hb : Below w.heap.size w w') : OutL w k zs (.returned (.tuple #[.slice none 0 0, .int .i64 k])) w' :=
 ⟨none, 0, 0, rfl, by rw [if_neg hk]; exact ⟨rfl, fun h => absurd h om9⟩, (fun b o e => by cases e), by omega, hb⟩
theorem OutL.ok {w w' : World} {A : Option Addr} {n c : Nat} {zs : List Int} (hN : NewT 1 intCells w.heap.size w' A n c zs) (hn : n ≤ 1000000) (hb : Below w.heap.size w w') : OutL w 0 zs (.returned (.tuple #[.slice A n c, .int .i64 0])) w' :=
 ⟨A, n, c, rfl, by rw [if_pos rfl]; exact hN.isT, hN.new, hn, hb⟩
def quenE (M : MachD) (S : StD) : Int := if validS M S = true then repE S 1 else 1
def dimL (S : StD) : List Int := zerosI S.C.plasma.length
theorem dim_ok {M : MachD} {S : StD} (h : FitS M S) : validPl M (dimL S) = true := by
 have t0 : ∀ k : Nat, tot 0 (List.replicate k 0) = 0 := fun k => by
  induction k with
  | zero => rfl
  | succ k ih => rw [List.replicate_succ]; show tot (wrap64 (0 + 0)) _ = 0; rw [show wrap64 (0 + 0) = 0 from by (first | rfl | simp [wrap64] | (unfold wrap64; rfl))]; exact ih
 refine fitP_iff.2 ⟨h.cur.check, ⟨?_, fun x hx => ?_⟩, ?_⟩
 ·simp only [dimL, zerosI, List.length_replicate]; exact h.cur.plasma.1
 ·obtain ⟨_, rfl⟩ := List.mem_replicate.1 hx; omega
 ·simp only [dimL, zerosI, t0]; omega
theorem kza_bl_apiState_ : ∀ w, (Instr.build 35 #[]).run Tryz.prog w = .ok (.agg #[(.int .i64 0), (.slice none 0 0), (.slice none 0 0), (.slice none 0 0), (.slice none 0 0), (.slice none 0 0)]) w := by
 intro w; simp [Instr.build, Instr.fill, cells_agg, Tryz.runUnderlying35, Tryz.zeroValue35, Tryz.sizeOf3, Tryz.sizeOf30, Tryz.sizeOf32, Tryz.sizeOf33]
theorem kza_bl_apiDrive_0_1 (a0 a1 : Value) (ha0 : a0.oneCell' = true) (ha1 : a1.oneCell' = true) : ∀ w, (Instr.build 79 #[(0, a0), (1, a1)]).run Tryz.prog w = .ok (.agg #[a0, a1]) w := by
 have ea0 : a0.cells = #[a0] := cells_one ha0
 have ea1 : a1.cells = #[a1] := cells_one ha1
 intro w; simp [Instr.build, Instr.fill, cells_agg, Tryz.runUnderlying79, Tryz.zeroValue79, Tryz.sizeOf30, ea0, ea1]
set_option maxRecDepth 100000 in
theorem cquench_any (R : MachR) (M : MachD) (RS : StR) (S : StD) (w : World) (hM : IsM w R M) (hS : IsS w RS S) : Calls Tryz.prog 9 #[(.agg (machCells R M)), (RS.v S.tick)] w (OutS w (quenE M S) (stepD M S (zerosI M.coils.length) (dimL S))) := by
 refine calls_ax (vs := [(.agg (machCells R M)), (RS.v S.tick)]) Tryz.func9 rfl rfl ?_
 refine ac_seq (ac_region ?_)
 refine al_nb (r_box rfl rfl) ?_
 intro b1
 refine al_nb (r_box rfl rfl) ?_
 intro b2
 refine al_nb (r_alloc Tryz.zeroValue35 rfl) ?_
 intro b3
 refine al_p (q_assign rfl) (al_end (aq_then ?_))
 refine ac_seq (ac_seq (ac_region ?_))
 refine al_p (q_loadAll (i := 2) rfl rfl Tryz.isAgg29 Tryz.sizeOf29 rfl) (al_p (q_loadAll (i := 1) rfl rfl Tryz.isAgg35 Tryz.sizeOf35 rfl) (al_call Tryz.call24 (.cons rfl (.cons rfl .nil)) rfl rfl (fun w1 hs1 => ?_)))
 refine (validState_any R M RS S _ (hM.below hs1.below) (hS.below hs1.below)).mono ?_
 rintro e u1 ⟨rfl, hb_1⟩
 refine ⟨_, rfl, hb_1, ?_⟩
 clear hs1
 refine al_p (q_not rfl) (al_end (aq_then ?_))
 refine ac_cond rfl (fun h1 => ?_) (fun h1 => ?_)
 ·have hE : quenE M S = 1 := if_neg (fun h => by rw [h] at h1; cases h1)
  refine ac_seq (ac_region ?_)
  refine al_p (q_build .nil (kza_bl_apiState_)) (al_storeAll (i := 0) rfl rfl rfl rfl Tryz.sizeOf35 rfl rfl .k0 rfl (al_p (q_assign rfl) (al_end (aq_then ?_))))
  refine ac_ret (aq_thenR (retR Tryz.results9 (.agg (i := 0) rfl rfl Tryz.isAgg35 Tryz.sizeOf35 rfl (.tmp rfl .nil)) .two (fun w9 hs => ?_)))
  rw [hE]; exact OutS.bad de9 ⟨rfl, hs.below⟩
 ·have hv : validS M S = true := by simpa using h1
  have hf := fitS_iff.1 hv
  obtain ⟨s1, s2⟩ := smallC hM hf.cur.check
  have s3 := cellN_bd hf.cur.check
  have s4 := hf.cur.plasma.1
  have s5 := hS.cur.plasma.1
  have s6 : RS.Q.lc ≤ 64 := by unfold cellN at s3; omega
  have hE : quenE M S = repE S 1 := if_pos hv
  refine ac_skip (aq_then (ac_seq (ac_drawK 1 16 rfl kr9 kr9 ?_)))
  refine ah_t 0 (fun w9 hs => (hs.tail 1 rfl)) rfl rfl kr9 (q_loadAll (i := 1) rfl rfl Tryz.isAgg29 Tryz.sizeOf29 rfl) (ah_t 1 (fun w9 hs => (hs.tail 1 rfl)) rfl rfl kr9 (q_loadAll (i := 0) rfl rfl Tryz.isAgg35 Tryz.sizeOf35 rfl) ?_)
  refine ah_t 2 (fun w9 hs => (hs.tail 1 rfl)) rfl rfl kr9 (q_fieldAddr 1 rfl Tryz.runUnderlying29 rfl Tryz.sizeOf22 de9 rfl) (ah_t 3 (fun w9 hs => (hs.tail 1 rfl)) rfl rfl kr9 (q_load (i := 1) rfl rfl rfl Tryz.isAgg22) (ah_t 4 (fun w9 hs => (hs.tail 1 rfl)) rfl rfl kr9 (q_lenS rfl Tryz.runUnderlying22) ?_))
  refine ah_t 6 (fun w9 hs => (hs.tail 1 rfl)) rfl rfl kr9 (q_fieldAddr 1 rfl Tryz.runUnderlying35 rfl Tryz.sizeOf32 de9 rfl) ?_
  refine ah_t 7 (fun w9 hs => (hs.tail 1 rfl)) rfl rfl kr9 (q_fieldAddr 3 rfl Tryz.runUnderlying32 rfl Tryz.sizeOf30 de9 rfl) (ah_t 8 (fun w9 hs => (hs.tail 1 rfl)) rfl rfl kr9 (q_load (i := 0) rfl rfl rfl Tryz.isAgg30) (ah_t 9 (fun w9 hs => (hs.tail 1 rfl)) rfl rfl kr9 (q_lenS rfl Tryz.runUnderlying30) ?_))
  refine ah_two 5 10 rfl rfl  kr9 (fun hok1 hcl1 => ?_) (fun hok1 hcl1 => ?_)
  ·refine al_makeInts (n := R.la) (z := (.int .i64 0)) (bytes := 8) rfl rfl rfl Tryz.underlying30 kr9 rfl om9 de9 rfl rfl ?_
   intro b4
   refine al_end (ah_back hok1 hcl1 (fun w9 hs => (hs.tail 2 rfl)) ?_)
   refine ah_one 10 rfl kr9 (fun hok2 hcl2 => ?_)
   refine al_makeInts (n := RS.Q.lc) (z := (.int .i64 0)) (bytes := 8) rfl rfl rfl Tryz.underlying30 kr9 rfl om9 de9 rfl rfl ?_
   intro b5
   refine al_end (ah_back hok2 hcl2 (fun w9 hs => (hs.tail 3 rfl)) ?_)
   refine ah_t 11 (fun w9 hs => (hs.tail 3 rfl)) rfl rfl kr9 (q_build (.cons rfl (.cons rfl .nil)) (kza_bl_apiDrive_0_1 _ _ rfl rfl)) (ah_one 12 rfl kr9 (fun hok3 hcl3 => ?_))
   refine al_call Tryz.call25 (.cons rfl (.cons rfl (.cons rfl (.cons rfl .nil)))) rfl rfl (fun w2 hs2 => ?_)
   have hz := hs2.below.size
   refine (repeat_any R M RS S (some ⟨b4, 0, none⟩) (some ⟨b5, 0, none⟩) R.la R.la RS.Q.lc RS.Q.lc (zerosI M.coils.length) (dimL S) 1 _ (hM.below hs2.below) (hS.below hs2.below) hf (isT_box0 (n := 1) (enc := intCells) (fun _ => rfl) (hs2.at 1 rfl) (by rw [hM.coils.1]; exact flatZ R.la) (by simp [zerosI, hM.coils.1])) (isT_box0 (n := 1) (enc := intCells) (fun _ => rfl) (hs2.at 0 rfl) (by unfold dimL; rw [hS.cur.plasma.1]; exact flatZ RS.Q.lc) (by simp [dimL, zerosI, hS.cur.plasma.1])) (fitD_of zero_ch (dim_ok hf))).mono ?_
   rintro e u2 ⟨x9, n9, rfl, k1_, k2_, hb_2⟩
   refine ⟨_, rfl, hb_2, ?_⟩
   clear hs2
   refine al_end (ah_back hok3 hcl3 (fun w9 hs => ((hs.fewer 1 rfl).tail 3 rfl)) ?_)
   refine ah_t 13 (fun w9 hs => ((hs.fewer 1 rfl).tail 3 rfl)) rfl rfl kr9 (q_extract rfl rfl) (ah_t 14 (fun w9 hs => ((hs.fewer 1 rfl).tail 3 rfl)) rfl rfl kr9 (q_extract rfl rfl) (ah_one 15 rfl kr9 (fun hok4 hcl4 => ?_)))
   refine al_storeAll (i := 2) rfl rfl rfl rfl Tryz.sizeOf35 rfl rfl .k2 rfl (al_end (ah_back hok4 hcl4 (fun w9 hs => ((hs.fewer 1 rfl).tail 3 rfl)) ?_))
   refine ah_one 16 rfl kr9 (fun hok5 hcl5 => ?_)
   refine al_p (q_assign rfl) (al_end (ah_last kr9 ?_))
   refine aq_then (ac_ret (retR Tryz.results9 (.agg (i := 2) rfl rfl Tryz.isAgg35 Tryz.sizeOf35 rfl (.tmp rfl .nil)) .two (fun w9 hs => ?_)))
   rw [hE]; exact outS_late hs (.head _) hz hs.below k1_ k2_
  ·refine al_makeInts (n := RS.Q.lc) (z := (.int .i64 0)) (bytes := 8) rfl rfl rfl Tryz.underlying30 kr9 rfl om9 de9 rfl rfl ?_
   intro b6
   refine al_end (ah_back hok1 hcl1 (fun w9 hs => (hs.tail 2 rfl)) ?_)
   refine ah_one 5 rfl kr9 (fun hok6 hcl6 => ?_)
   refine al_makeInts (n := R.la) (z := (.int .i64 0)) (bytes := 8) rfl rfl rfl Tryz.underlying30 kr9 rfl om9 de9 rfl rfl ?_
   intro b7
   refine al_end (ah_back hok6 hcl6 (fun w9 hs => (hs.tail 3 rfl)) ?_)
   refine ah_t 11 (fun w9 hs => (hs.tail 3 rfl)) rfl rfl kr9 (q_build (.cons rfl (.cons rfl .nil)) (kza_bl_apiDrive_0_1 _ _ rfl rfl)) (ah_one 12 rfl kr9 (fun hok7 hcl7 => ?_))
   refine al_call Tryz.call25 (.cons rfl (.cons rfl (.cons rfl (.cons rfl .nil)))) rfl rfl (fun w3 hs3 => ?_)
   have hz := hs3.below.size
   refine (repeat_any R M RS S (some ⟨b7, 0, none⟩) (some ⟨b6, 0, none⟩) R.la R.la RS.Q.lc RS.Q.lc (zerosI M.coils.length) (dimL S) 1 _ (hM.below hs3.below) (hS.below hs3.below) hf (isT_box0 (n := 1) (enc := intCells) (fun _ => rfl) (hs3.at 0 rfl) (by rw [hM.coils.1]; exact flatZ R.la) (by simp [zerosI, hM.coils.1])) (isT_box0 (n := 1) (enc := intCells) (fun _ => rfl) (hs3.at 1 rfl) (by unfold dimL; rw [hS.cur.plasma.1]; exact flatZ RS.Q.lc) (by simp [dimL, zerosI, hS.cur.plasma.1])) (fitD_of zero_ch (dim_ok hf))).mono ?_
   rintro e u3 ⟨x9, n9, rfl, k1_, k2_, hb_3⟩
   refine ⟨_, rfl, hb_3, ?_⟩
   clear hs3
   refine al_end (ah_back hok7 hcl7 (fun w9 hs => ((hs.fewer 1 rfl).tail 3 rfl)) ?_)
   refine ah_t 13 (fun w9 hs => ((hs.fewer 1 rfl).tail 3 rfl)) rfl rfl kr9 (q_extract rfl rfl) (ah_t 14 (fun w9 hs => ((hs.fewer 1 rfl).tail 3 rfl)) rfl rfl kr9 (q_extract rfl rfl) (ah_one 15 rfl kr9 (fun hok8 hcl8 => ?_)))
   refine al_storeAll (i := 2) rfl rfl rfl rfl Tryz.sizeOf35 rfl rfl .k2 rfl (al_end (ah_back hok8 hcl8 (fun w9 hs => ((hs.fewer 1 rfl).tail 3 rfl)) ?_))
   refine ah_one 16 rfl kr9 (fun hok9 hcl9 => ?_)
   refine al_p (q_assign rfl) (al_end (ah_last kr9 ?_))
   refine aq_then (ac_ret (retR Tryz.results9 (.agg (i := 2) rfl rfl Tryz.isAgg35 Tryz.sizeOf35 rfl (.tmp rfl .nil)) .two (fun w9 hs => ?_)))
   rw [hE]; exact outS_late hs (.head _) hz hs.below k1_ k2_
end
section
open Go.RowKit
def HeavyB (RS : StR) (l1 l2 : Nat) : Prop := (RS.Q.la ≤ 20 ∧ RS.Q.lb ≤ 20 ∧ RS.Q.lc ≤ 70 ∧ RS.lh ≤ 20 ∧ RS.lt ≤ 20) ∧ l1 ≤ 20 ∧ l2 ≤ 70
set_option maxRecDepth 100000 in
theorem heavy_any (RS : StR) (S : StD) (A1 A2 : Option Addr) (l1 c1 l2 c2 : Nat) (w : World) : Calls Tryz.prog 6 #[(RS.v S.tick), (.slice A1 l1 c1), (.slice A2 l2 c2)] w (fun e w' => ∃ b : Bool, e = .returned (.bool b) ∧ (b = false → HeavyB RS l1 l2) ∧ Below w.heap.size w w') := by
 refine calls_ax (vs := [(RS.v S.tick), (.slice A1 l1 c1), (.slice A2 l2 c2)]) Tryz.func6 rfl rfl ?_
 refine ac_seq (ac_region ?_)
 refine al_nb (r_box rfl rfl) ?_
 intro b1
 refine al_p (q_assign rfl) (al_end (aq_then ?_))
 refine ac_seq (ac_region ?_)
 refine al_p (q_fieldAddr 1 rfl Tryz.runUnderlying35 rfl Tryz.sizeOf32 de9 rfl) ?_
 refine al_p (q_fieldAddr 1 rfl Tryz.runUnderlying32 rfl Tryz.sizeOf30 de9 rfl) (al_p (q_load (i := 0) rfl rfl rfl Tryz.isAgg30) (al_p (q_lenS rfl Tryz.runUnderlying30) (al_p (q_gtr rfl rfl) (al_p (q_move rfl) ?_))))
 refine aq_split 12 rfl (fun hb1 => ?_) (fun hb1 => ?_)
 ·skip
  refine al_skip rfl rfl rfl (al_skip rfl rfl rfl (al_skip rfl rfl rfl (al_skip rfl rfl rfl (al_skip rfl rfl rfl ?_))))
  refine al_p (q_pickT rfl rfl) (al_p (q_move rfl) (al_skip rfl rfl rfl (al_skip rfl rfl rfl (al_skip rfl rfl rfl ?_))))
  refine al_skip rfl rfl rfl (al_skip rfl rfl rfl (al_p (q_pickT rfl rfl) (al_p (q_move rfl) (al_skip rfl rfl rfl ?_))))
  refine al_skip rfl rfl rfl (al_skip rfl rfl rfl (al_skip rfl rfl rfl (al_p (q_pickT rfl rfl) (al_p (q_move rfl) ?_))))
  refine al_skip rfl rfl rfl (al_skip rfl rfl rfl (al_skip rfl rfl rfl (al_skip rfl rfl rfl (al_p (q_pickT rfl rfl) ?_))))
  refine al_p (q_move rfl) (al_skip rfl rfl rfl (al_skip rfl rfl rfl (al_skip rfl rfl rfl (al_p (q_pickT rfl rfl) ?_))))
  refine al_p (q_move rfl) (al_skip rfl rfl rfl (al_skip rfl rfl rfl (al_skip rfl rfl rfl (al_p (q_pickT rfl rfl) ?_))))
  refine al_p (q_assign rfl) (al_end (aq_then ?_))
  refine ac_ret (ret1 Tryz.results6 rfl (fun w9 hs => ?_))
  first | exact ⟨true, rfl, (fun h => by cases h), hs.below⟩ | exact ⟨_, rfl, (fun h => by have := of_decide_eq_false h; unfold HeavyB; omega), hs.below⟩
 ·have g12 := of_decide_eq_false hb1
  refine al_p (q_fieldAddr 1 rfl Tryz.runUnderlying35 rfl Tryz.sizeOf32 de9 rfl) ?_
  refine al_p (q_fieldAddr 2 rfl Tryz.runUnderlying32 rfl Tryz.sizeOf30 de9 rfl) (al_p (q_load (i := 0) rfl rfl rfl Tryz.isAgg30) (al_p (q_lenS rfl Tryz.runUnderlying30) (al_p (q_gtr rfl rfl) (al_p (q_pickF rfl rfl) ?_))))
  refine al_p (q_move rfl) ?_
  refine aq_split 19 rfl (fun hb2 => ?_) (fun hb2 => ?_)
  ·skip
   refine al_skip rfl rfl rfl (al_skip rfl rfl rfl (al_skip rfl rfl rfl (al_skip rfl rfl rfl (al_skip rfl rfl rfl ?_))))
   refine al_p (q_pickT rfl rfl) (al_p (q_move rfl) (al_skip rfl rfl rfl (al_skip rfl rfl rfl (al_skip rfl rfl rfl ?_))))
   refine al_skip rfl rfl rfl (al_p (q_pickT rfl rfl) (al_p (q_move rfl) (al_skip rfl rfl rfl (al_skip rfl rfl rfl ?_))))
   refine al_skip rfl rfl rfl (al_skip rfl rfl rfl (al_p (q_pickT rfl rfl) (al_p (q_move rfl) (al_skip rfl rfl rfl ?_))))
   refine al_skip rfl rfl rfl (al_skip rfl rfl rfl (al_p (q_pickT rfl rfl) (al_p (q_move rfl) (al_skip rfl rfl rfl ?_))))
   refine al_skip rfl rfl rfl (al_skip rfl rfl rfl (al_p (q_pickT rfl rfl) (al_p (q_assign rfl) (al_end (aq_then ?_)))))
   refine ac_ret (ret1 Tryz.results6 rfl (fun w9 hs => ?_))
   first | exact ⟨true, rfl, (fun h => by cases h), hs.below⟩ | exact ⟨_, rfl, (fun h => by have := of_decide_eq_false h; unfold HeavyB; omega), hs.below⟩
  ·have g19 := of_decide_eq_false hb2
   refine al_p (q_fieldAddr 1 rfl Tryz.runUnderlying35 rfl Tryz.sizeOf32 de9 rfl) ?_
   refine al_p (q_fieldAddr 3 rfl Tryz.runUnderlying32 rfl Tryz.sizeOf30 de9 rfl) (al_p (q_load (i := 0) rfl rfl rfl Tryz.isAgg30) (al_p (q_lenS rfl Tryz.runUnderlying30) (al_p (q_gtr rfl rfl) (al_p (q_pickF rfl rfl) ?_))))
   refine al_p (q_move rfl) ?_
   refine aq_split 26 rfl (fun hb3 => ?_) (fun hb3 => ?_)
   ·skip
    refine al_skip rfl rfl rfl (al_skip rfl rfl rfl (al_skip rfl rfl rfl (al_skip rfl rfl rfl (al_p (q_pickT rfl rfl) ?_))))
    refine al_p (q_move rfl) (al_skip rfl rfl rfl (al_skip rfl rfl rfl (al_skip rfl rfl rfl (al_skip rfl rfl rfl ?_))))
    refine al_p (q_pickT rfl rfl) (al_p (q_move rfl) (al_skip rfl rfl rfl (al_skip rfl rfl rfl (al_skip rfl rfl rfl ?_))))
    refine al_p (q_pickT rfl rfl) (al_p (q_move rfl) (al_skip rfl rfl rfl (al_skip rfl rfl rfl (al_skip rfl rfl rfl ?_))))
    refine al_p (q_pickT rfl rfl) (al_p (q_assign rfl) (al_end (aq_then ?_)))
    refine ac_ret (ret1 Tryz.results6 rfl (fun w9 hs => ?_))
    first | exact ⟨true, rfl, (fun h => by cases h), hs.below⟩ | exact ⟨_, rfl, (fun h => by have := of_decide_eq_false h; unfold HeavyB; omega), hs.below⟩
   ·have g26 := of_decide_eq_false hb3
    refine al_p (q_fieldAddr 4 rfl Tryz.runUnderlying35 rfl Tryz.sizeOf30 de9 rfl) (al_p (q_load (i := 0) rfl rfl rfl Tryz.isAgg30) (al_p (q_lenS rfl Tryz.runUnderlying30) (al_p (q_gtr rfl rfl) (al_p (q_pickF rfl rfl) ?_))))
    refine al_p (q_move rfl) ?_
    refine aq_split 32 rfl (fun hb4 => ?_) (fun hb4 => ?_)
    ·skip
     refine al_skip rfl rfl rfl (al_skip rfl rfl rfl (al_skip rfl rfl rfl (al_skip rfl rfl rfl (al_p (q_pickT rfl rfl) ?_))))
     refine al_p (q_move rfl) (al_skip rfl rfl rfl (al_skip rfl rfl rfl (al_skip rfl rfl rfl (al_p (q_pickT rfl rfl) ?_))))
     refine al_p (q_move rfl) (al_skip rfl rfl rfl (al_skip rfl rfl rfl (al_skip rfl rfl rfl (al_p (q_pickT rfl rfl) ?_))))
     refine al_p (q_assign rfl) (al_end (aq_then ?_))
     refine aq_keepL [6] (.cons rfl .nil) ?_
     refine ac_ret (ret1 Tryz.results6 rfl (fun w9 hs => ?_))
     first | exact ⟨true, rfl, (fun h => by cases h), hs.below⟩ | exact ⟨_, rfl, (fun h => by have := of_decide_eq_false h; unfold HeavyB; omega), hs.below⟩
    ·have g32 := of_decide_eq_false hb4
     refine al_p (q_fieldAddr 5 rfl Tryz.runUnderlying35 rfl Tryz.sizeOf33 de9 rfl) (al_p (q_load (i := 0) rfl rfl rfl Tryz.isAgg33) (al_p (q_lenS rfl Tryz.runUnderlying33) (al_p (q_gtr rfl rfl) (al_p (q_pickF rfl rfl) ?_))))
     refine al_p (q_move rfl) ?_
     refine aq_split 38 rfl (fun hb5 => ?_) (fun hb5 => ?_)
     ·skip
      refine al_skip rfl rfl rfl (al_skip rfl rfl rfl (al_skip rfl rfl rfl (al_p (q_pickT rfl rfl) (al_p (q_move rfl) ?_))))
      refine al_skip rfl rfl rfl (al_skip rfl rfl rfl (al_skip rfl rfl rfl (al_p (q_pickT rfl rfl) (al_p (q_assign rfl) ?_))))
      refine al_end (aq_then ?_)
      refine ac_ret (ret1 Tryz.results6 rfl (fun w9 hs => ?_))
      first | exact ⟨true, rfl, (fun h => by cases h), hs.below⟩ | exact ⟨_, rfl, (fun h => by have := of_decide_eq_false h; unfold HeavyB; omega), hs.below⟩
     ·have g38 := of_decide_eq_false hb5
      refine al_p (q_move rfl) (al_p (q_lenS rfl Tryz.runUnderlying30) (al_p (q_gtr rfl rfl) (al_p (q_pickF rfl rfl) (al_p (q_move rfl) ?_))))
      refine aq_split 43 rfl (fun hb6 => ?_) (fun hb6 => ?_)
      ·skip
       refine al_skip rfl rfl rfl (al_skip rfl rfl rfl (al_skip rfl rfl rfl (al_p (q_pickT rfl rfl) (al_p (q_assign rfl) ?_))))
       refine al_end (aq_then ?_)
       refine ac_ret (ret1 Tryz.results6 rfl (fun w9 hs => ?_))
       first | exact ⟨true, rfl, (fun h => by cases h), hs.below⟩ | exact ⟨_, rfl, (fun h => by have := of_decide_eq_false h; unfold HeavyB; omega), hs.below⟩
      ·have g43 := of_decide_eq_false hb6
       refine al_p (q_move rfl) (al_p (q_lenS rfl Tryz.runUnderlying73) (al_p (q_gtr rfl rfl) (al_p (q_pickF rfl rfl) (al_p (q_assign rfl) ?_))))
       refine al_end (aq_then ?_)
       refine ac_ret (ret1 Tryz.results6 rfl (fun w9 hs => ?_))
       first | exact ⟨true, rfl, (fun h => by cases h), hs.below⟩ | exact ⟨_, rfl, (fun h => by have := of_decide_eq_false h; unfold HeavyB; omega), hs.below⟩
end
section
set_option autoImplicit false
open Go.RowKit
structure Chn where
 (ia ib t : Nat) (z f : List Value)
abbrev Ph := Option (Nat × Bool)
def Chn.box (c : Chn) : Ph → Boxes
 | none => []
 | some (b, false) => [(b, .cells c.z)]
 | some (b, true) => [(b, .cells c.f)]
abbrev Phs := List (Chn × Ph)
def Apt (c d : Chn) : Prop := c.ia ≠ d.ia ∧ c.ia ≠ d.ib ∧ c.ib ≠ d.ia ∧ c.ib ≠ d.ib ∧ c.t ≠ d.t
theorem Apt.symm {c d : Chn} (h : Apt c d) : Apt d c := ⟨h.1.symm, h.2.2.1.symm, h.2.1.symm, h.2.2.2.1.symm, h.2.2.2.2.symm⟩
section
variable {P : Program} {e0 : Cfg} {U : Snaps} {ops : Array Oper} {Q : Exit → Act → World → Prop} {l0 : Slots} {L0 : Boxes}
def waits (ops : Array Oper) (listed : Array Bool) (j : Nat) (k : Option Nat) : Bool := match ops[j]? with
 | some o => o.after.all fun e => !Region.binds .any e || listed.getD e.on false || k == some e.on
 | none => false
structure Lis (ops : Array Oper) (base listed : Array Bool) (s : Phs) : Prop where
 size : listed.size = ops.size
 base : ∀ j, base.getD j false = true → listed.getD j false = true
 ch : ∀ x ∈ s, listed.getD x.1.ia false = x.2.isSome ∧ listed.getD x.1.ib false = (match x.2 with | some (_, true) => true | _ => false)
 rest : ∀ j, j < ops.size → (∀ x ∈ s, j ≠ x.1.ia ∧ j ≠ x.1.ib) → listed.getD j false = true
theorem getD_put {listed : Array Bool} {i j : Nat} : (listed.setIfInBounds i true).getD j false = if i = j ∧ i < listed.size then true else listed.getD j false := by
 simp only [Array.getD_eq_getD_getElem?, Array.getElem?_setIfInBounds]
 by_cases h : i = j
 ·subst h
  by_cases g : i < listed.size
  ·simp [g]
  ·simp [g]
 ·simp [h]
theorem Lis.put {base listed : Array Bool} {S1 S2 : Phs} {c : Chn} {p q : Ph} {i : Nat} (h : Lis ops base listed (S1 ++ (c, p) :: S2)) (hi : i < ops.size) (hap : ∀ x, x ∈ S1 ∨ x ∈ S2 → Apt c x.1) (hne : c.ia ≠ c.ib)
  (hq : (i = c.ia ∧ p = none ∧ ∃ b, q = some (b, false)) ∨ (i = c.ib ∧ ∃ b, p = some (b, false) ∧ q = some (b, true))) : Lis ops base (listed.setIfInBounds i true) (S1 ++ (c, q) :: S2) := by
 have hsz := h.size
 have mem : ∀ x, x ∈ S1 ∨ x ∈ S2 → x ∈ S1 ++ (c, p) :: S2 := fun x hx => by simp only [List.mem_append, List.mem_cons]; rcases hx with g | g <;> simp [g]
 refine ⟨by simp [hsz], fun j hj => by rw [getD_put]; split; rfl; exact h.base j hj, fun x hx => ?_, fun j hj hall => ?_⟩
 ·have hx' : x = (c, q) ∨ (x ∈ S1 ∨ x ∈ S2) := by simp only [List.mem_append, List.mem_cons] at hx; rcases hx with g | g | g <;> simp [g]
  rcases hx' with rfl | hx'
  ·have hc := h.ch (c, p) (by simp)
   simp only at hc ⊢
   rcases hq with ⟨rfl, rfl, b, rfl⟩ | ⟨rfl, b, rfl, rfl⟩
   ·rw [getD_put, getD_put, if_pos ⟨rfl, by omega⟩, if_neg (fun g => hne g.1)]
    exact ⟨rfl, hc.2⟩
   ·rw [getD_put, getD_put, if_neg (fun g => hne g.1.symm), if_pos ⟨rfl, by omega⟩]
    exact ⟨hc.1, rfl⟩
  ·have ha := hap x hx'
   have hc := h.ch x (mem x hx')
   rw [getD_put, getD_put]
   rcases hq with ⟨rfl, -, -⟩ | ⟨rfl, -, -⟩
   ·rw [if_neg (fun g => ha.1 g.1), if_neg (fun g => ha.2.1 g.1)]; exact hc
   ·rw [if_neg (fun g => ha.2.2.1 g.1), if_neg (fun g => ha.2.2.2.1 g.1)]; exact hc
 ·rw [getD_put]
  split
  ·rfl
  ·refine h.rest j hj fun x hx => ?_
   have hx' : x = (c, p) ∨ (x ∈ S1 ∨ x ∈ S2) := by simp only [List.mem_append, List.mem_cons] at hx; rcases hx with g | g | g <;> simp [g]
   rcases hx' with rfl | hx'
   ·exact hall (c, q) (by simp)
   ·exact hall x (by simp only [List.mem_append, List.mem_cons]; rcases hx' with g | g <;> simp [g])
theorem IsT.drop {α : Type} {n : Nat} {enc : α → List Value} {w : World} {b o len : Nat} {zs : List α} (h : IsT n enc w (some ⟨b, o, none⟩) len zs) (k : Nat) : IsT n enc w (some ⟨b, o + k * n, none⟩) (len - k) (zs.drop k) :=
 ⟨by rw [List.length_drop, h.1], fun h0 => by
  obtain ⟨b', o', e, h1, h2⟩ := h.2 om9
  cases e
  refine ⟨b, o + k * n, rfl, h1, fun j x hx i v hv => ?_⟩
  rw [List.getElem?_drop] at hx
  have := h2 (k + j) x hx i v hv
  rwa [Nat.add_mul, ← Nat.add_assoc] at this⟩
end
end
end Go.Proofs.YthggkidiidnaoaaGreat
