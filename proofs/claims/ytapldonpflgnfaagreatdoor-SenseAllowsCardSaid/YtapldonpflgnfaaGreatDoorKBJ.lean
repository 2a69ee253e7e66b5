import Derived.Test.YtapldonpflgnfaaGreatDoorKAY
import Derived.Test.YtapldonpflgnfaaGreatDoorKBB
import Derived.Test.YtapldonpflgnfaaGreatDoorKBF
import Derived.Test.YtapldonpflgnfaaGreatDoorKBG
import Derived.Test.YtapldonpflgnfaaGreatDoorKBH
import Derived.Test.YtapldonpflgnfaaGreatDoorKBI
import Derived.Test.YtapldonpflgnfaaGreatDoorRows
import Derived.KernelRfl
import Derived.Laws.StructEq
namespace Go.Proofs.YtapldonpflgnfaaGreatDoor
set_option linter.unusedVariables false
set_option linter.unusedSimpArgs false
section
open Go.RowKit
theorem explB_iff {M : MachD} {C : CurD} {zs : List SpanD} : explB M C zs = true ↔ Fit2 M C ∧ zs.length = M.sensors.length ∧ ∀ s ∈ zs, vld s.lo s.hi = true := by
  unfold explB readsB
  rw [Bool.and_eq_true, Bool.and_eq_true, Bool.and_eq_true, fit2_iff, decide_eq_true_iff, decide_eq_true_iff, List.all_eq_true]
  exact ⟨fun h => ⟨h.1, h.2.2.1, h.2.2.2⟩, fun h => ⟨h.1, h.1.check, h.2.1, h.2.2⟩⟩
theorem RowL.box {b : Nat} {vs : List Value} {W : World} (h : RowL b vs W) : BoxAt W b (.cells vs) :=
  ⟨h.lt, fun cs hc k v hk => by cases hc; exact ⟨h.cell k v hk, h.mark k (List.getElem?_eq_some_iff.1 hk).1⟩, fun es k hc => by cases hc⟩
theorem bgL_bd (M : MachD) (C : CurD) : ∀ b ∈ bgL M C, -50000000000000000 ≤ b ∧ b ≤ 50000000000000000 := fun b hb => by
  unfold bgL at hb
  obtain ⟨k, _, rfl⟩ := List.mem_map.1 hb
  exact backL_bd M C k
def OutT {α : Type} (z : Nat) (enc : α → List Value) (w : World) (E : Int) (zs : List α) (e : Ending) (w' : World) : Prop := ∃ A n c, e = .returned (.tuple #[.slice A n c, .int .i64 E]) ∧ NewT z enc w.heap.size w' A n c zs ∧ Below w.heap.size w w'
theorem OutT.nil {α : Type} {z : Nat} {enc : α → List Value} {w w' : World} {E : Int} (hb : Below w.heap.size w w') : OutT z enc w E ([] : List α) (.returned (.tuple #[.slice none 0 0, .int .i64 E])) w' :=
  ⟨none, 0, 0, rfl, ⟨IsT.nil _ _ _ _, fun b o e => (by cases e), Nat.le_refl _, by omega⟩, hb⟩
theorem OutT.ok {α : Type} {z n c : Nat} {enc : α → List Value} {w w' : World} {A : Option Addr} {zs : List α} {E : Int} (h : NewT z enc w.heap.size w' A n c zs) (hb : Below w.heap.size w w') : OutT z enc w E zs (.returned (.tuple #[.slice A n c, .int .i64 E])) w' := ⟨A, n, c, rfl, h, hb⟩
set_option maxRecDepth 100000 in
theorem cagr_own (F : Option Addr) (n cf : Nat) (cur : Int) (w : World) : Calls Tryz.prog 41 #[(.slice F n cf), (.int .i64 cur)] w (fun e w' => ∃ b1 b2, e = .returned (.func (.func 79) #[] #[.pointer (some ⟨b1, 0, none⟩), .pointer (some ⟨b2, 0, none⟩)]) ∧ Own w [(b2, .cells [.int .i64 cur]), (b1, .cells [.slice F n cf])] w') := by
  refine calls_ax (vs := [(.slice F n cf), (.int .i64 cur)]) Tryz.func41 rfl rfl ?_
  refine ac_seq (ac_region ?_)
  refine al_new (fun b => .pointer (some ⟨b, 0, none⟩)) (r_box rfl rfl) rfl rfl rfl ?_
  intro b1
  refine al_new (fun b => .pointer (some ⟨b, 0, none⟩)) (r_box rfl rfl) rfl rfl rfl ?_
  intro b2
  refine al_p (q_assign rfl) ?_
  refine al_end (aq_then ?_)
  refine ac_seq (ac_region ?_)
  refine al_p (q_makeFunc _ _ .nil (.cons rfl (.cons rfl .nil))) ?_
  refine al_p (q_assign rfl) ?_
  refine al_end (aq_then ?_)
  refine ac_ret ?_
  refine ret1 Tryz.results41 rfl (fun w9 hs => ?_)
  exact ⟨b1, b2, rfl, hs.defer 0⟩
set_option maxRecDepth 100000 in
theorem cagr9_any (R : MachR) (M : MachD) (Q : CurR) (C : CurD) (F : Option Addr) (nf cf : Nat) (zs : List SpanD) (cell cur : Int) (w : World) (hM : IsM w R M) (hC : IsC w Q C) (hF : IsT 2 SpanD.cells w F nf zs) (hn : nf ≤ 1000000000000000) : Calls Tryz.prog 12 #[(.agg (machCells R M)), Q.v, (.slice F nf cf), (.int .i64 cell), (.int .i64 cur)] w (OutT 1 intCells w (agE M C zs cell cur) (agZ M C zs cell cur)) := by
  refine calls_ax (vs := [(.agg (machCells R M)), Q.v, (.slice F nf cf), (.int .i64 cell), (.int .i64 cur)]) Tryz.func12 rfl rfl ?_
  refine ac_seq (ac_region ?_)
  refine al_new (fun b => .pointer (some ⟨b, 0, none⟩)) (r_box rfl rfl) rfl rfl rfl ?_
  intro b1
  refine al_new (fun b => .pointer (some ⟨b, 0, none⟩)) (r_box rfl rfl) rfl rfl rfl ?_
  intro b2
  refine al_p (q_assign rfl) ?_
  refine al_p (q_assign rfl) ?_
  refine al_end (aq_then ?_)
  refine ac_seq ?_
  refine ac_seq (ac_region ?_)
  refine al_p (q_loadAll (i := 1) rfl rfl Tryz.isAgg29 Tryz.sizeOf29 rfl) ?_
  refine al_p (q_loadAll (i := 0) rfl rfl Tryz.isAgg32 Tryz.sizeOf32 rfl) ?_
  refine al_p (q_move rfl) ?_
  refine al_call Tryz.call27 (.cons rfl (.cons rfl (.cons rfl .nil))) rfl rfl (fun w1 hs1 => ?_)
  refine (explainable_any R M Q C F nf cf zs _ (hM.below hs1.below) (hC.below hs1.below) (hF.below hs1.below) hn).mono ?_
  rintro e u1 ⟨rfl, hb_1⟩
  refine ⟨_, rfl, hb_1, ?_⟩
  clear hs1
  refine al_p (q_not rfl) ?_
  refine al_end (aq_then ?_)
  refine ac_cond rfl (fun h1 => ?_) (fun h1 => ?_)
  · have hE : explB M C zs = false := by simpa using h1
    refine ac_seq (ac_region ?_)
    refine al_p (q_assign rfl) ?_
    refine al_p (q_assign rfl) ?_
    refine al_end (aq_then ?_)
    refine ac_ret ?_
    refine aq_thenR ?_
    refine ret2 Tryz.results12 rfl rfl (fun w9 hs => ?_)
    unfold agE agZ; rw [if_neg (by rw [hE]; decide), if_neg (by rw [hE]; decide)]; exact OutT.nil hs.below
  · have he : explB M C zs = true := by simpa using h1
    have hexp := explB_iff.1 he
    obtain ⟨hv, hzl, hzs⟩ := hexp
    have hvc := fit2_iff.2 hv
    have hs0 := sound_of hv.check
    have hg := cells_fine hs0.grid
    have hsn := hs0.sensors.1
    have hld := hM.sensors.1
    have hnz := hF.1
    have hcp := hv.plasma.1
    have qc := hC.plasma.1
    have hkc := hC.kc
    refine ac_skip ?_
    refine aq_then ?_
    refine ac_seq ?_
    refine ac_seq (ac_region ?_)
    refine al_p (q_move rfl) ?_
    refine al_p (q_fieldAddr 2 rfl Tryz.runUnderlying32 rfl Tryz.sizeOf30 (by decide) rfl) ?_
    refine al_p (q_load (i := 0) rfl rfl rfl Tryz.isAgg30) ?_
    refine al_p (q_lenS rfl Tryz.runUnderlying30) ?_
    refine al_p (q_sub rfl rfl (by omega)) ?_
    refine al_call Tryz.call37 (.cons rfl (.cons rfl (.cons rfl .nil))) rfl rfl (fun w2 hs2 => ?_)
    refine (seWithin_any cell 0 ((Q.lc : Int) - 1) _).mono ?_
    rintro e u2 ⟨rfl, rfl⟩
    refine ⟨_, rfl, (Below.refl _ _), ?_⟩
    clear hs2
    refine al_p (q_not rfl) ?_
    refine al_p (q_move rfl) ?_
    refine aq_split 24 rfl (fun hb1 => ?_) (fun hb1 => ?_)
    · have hx1 : wthn cell 0 ((Q.lc : Int) - 1) = false := by simpa using hb1
      refine al_skip rfl rfl rfl ?_
      refine al_skip rfl rfl rfl ?_
      refine al_skip rfl rfl rfl ?_
      refine al_p (q_pickT rfl rfl) ?_
      refine al_end (aq_then ?_)
      refine ac_condT rfl ?_
      refine ac_seq (ac_region ?_)
      refine al_p (q_assign rfl) ?_
      refine al_p (q_assign rfl) ?_
      refine al_end (aq_then ?_)
      refine ac_ret ?_
      refine aq_thenR ?_
      refine ret2 Tryz.results12 rfl rfl (fun w9 hs => ?_)
      have hin : inB C cell cur = false := by unfold inB; rw [qc]; first | (rw [hx1]; rfl) | (rw [hx1, hx2]; rfl)
      unfold agE agZ; rw [if_pos he, if_pos he, if_neg (by rw [hin]; decide), if_neg (by rw [hin]; decide)]; exact OutT.nil hs.below
    · have hx1 : wthn cell 0 ((Q.lc : Int) - 1) = true := by simpa using hb1
      have hx1b := wthn_iff.1 hx1
      refine al_p (q_move rfl) ?_
      refine al_call Tryz.call37 (.cons rfl (.cons rfl (.cons rfl .nil))) rfl rfl (fun w3 hs3 => ?_)
      refine (seWithin_any cur 0 1000000 _).mono ?_
      rintro e u3 ⟨rfl, rfl⟩
      refine ⟨_, rfl, (Below.refl _ _), ?_⟩
      clear hs3
      refine al_p (q_not rfl) ?_
      refine al_p (q_pickF rfl rfl) ?_
      refine al_end (aq_then ?_)
      refine ac_cond rfl (fun h2 => ?_) (fun h2 => ?_)
      · have hx2 : wthn cur 0 1000000 = false := by simpa using h2
        refine ac_seq (ac_region ?_)
        refine al_p (q_assign rfl) ?_
        refine al_p (q_assign rfl) ?_
        refine al_end (aq_then ?_)
        refine ac_ret ?_
        refine aq_thenR ?_
        refine ret2 Tryz.results12 rfl rfl (fun w9 hs => ?_)
        have hin : inB C cell cur = false := by unfold inB; rw [qc]; first | (rw [hx1]; rfl) | (rw [hx1, hx2]; rfl)
        unfold agE agZ; rw [if_pos he, if_pos he, if_neg (by rw [hin]; decide), if_neg (by rw [hin]; decide)]; exact OutT.nil hs.below
      · have hx2 : wthn cur 0 1000000 = true := by simpa using h2
        refine ac_skip ?_
        refine aq_then ?_
        refine ac_seq ?_
        refine ac_draw 11 (by kernel_rfl) (by kernel_rfl) ?_
        refine ah_t 0 (fun w9 hs => hs) rfl rfl (by kernel_rfl) (q_loadAll (i := 1) rfl rfl Tryz.isAgg29 Tryz.sizeOf29 rfl) ?_
        refine ah_t 1 (fun w9 hs => hs) rfl rfl (by kernel_rfl) (q_loadAll (i := 1) rfl rfl Tryz.isAgg29 Tryz.sizeOf29 rfl) ?_
        refine ah_t 2 (fun w9 hs => hs) rfl rfl (by kernel_rfl) (q_loadAll (i := 0) rfl rfl Tryz.isAgg32 Tryz.sizeOf32 rfl) ?_
        refine ah_t 4 (fun w9 hs => hs) rfl rfl (by kernel_rfl) (q_move rfl) ?_
        refine ah_t 5 (fun w9 hs => hs) rfl rfl (by kernel_rfl) (q_move rfl) ?_
        refine ah_t 7 (fun w9 hs => hs) rfl rfl (by kernel_rfl) (q_move rfl) ?_
        refine ah_one 3 rfl (by kernel_rfl) (fun hok1 hcl1 => ?_)
        refine al_call Tryz.call40 (.cons rfl (.cons rfl .nil)) rfl rfl (fun w4 hs4 => ?_)
        refine (backgrounds_any R M Q C _ (hM.below hs4.below) (hC.below hs4.below) (by omega)).mono ?_
        rintro e u4 ⟨bg, rfl, G1, G2, hb_4⟩
        refine ⟨_, rfl, hb_4, ?_⟩
        clear hs4
        refine al_end (ah_back hok1 hcl1 (fun w9 hs => (hs.fewer 1 rfl)) ?_)
        refine ah_one 6 rfl (by kernel_rfl) (fun hok2 hcl2 => ?_)
        refine al_call Tryz.call39 (.cons rfl (.cons rfl (.cons rfl (.cons rfl .nil)))) rfl rfl (fun w5 hs5 => ?_)
        have hbg : IsT 1 intCells w5 (some ⟨bg, 0, none⟩) R.ld (bgL M C) := hs5.isT (.head _) (isT_box0 (n := 1) (enc := intCells) (fun _ => rfl) G2.box (flat_int _) (by rw [bgL_len, hld])) (fun b o e => by cases e; exact Or.inl G1)
        refine (claimsIn_any R M (some ⟨bg, 0, none⟩) F R.ld R.ld nf cf (bgL M C) zs cell _ (hM.below hs5.below) hbg (hF.below hs5.below) hv.check (wthn_iff.2 ⟨by omega, by omega⟩) rfl (by omega) (bgL_bd M C) hzs).mono ?_
        rintro e u5 ⟨bc, rfl, G3, G4, hb_5⟩
        refine ⟨_, rfl, hb_5, ?_⟩
        clear hs5
        refine al_end (ah_back hok2 hcl2 (fun w9 hs => (hs.fewer 2 rfl)) ?_)
        refine ah_one 8 rfl (by kernel_rfl) (fun hok3 hcl3 => ?_)
        refine al_callS Tryz.call41 (.cons rfl (.cons rfl .nil)) rfl rfl (fun w6 hs6 => ?_)
        refine (cagr_own (some ⟨bc, 0, none⟩) R.ld R.ld cur _).mono ?_
        rintro e u6 ⟨ba, bb, rfl, hb_6⟩
        refine ⟨_, _, _, rfl, hs6.gift hb_6, ?_⟩
        refine al_end (ah_back hok3 hcl3 (fun w9 hs => ((hs.fewer 2 rfl).tail 2 rfl)) ?_)
        refine ah_one 9 rfl (by kernel_rfl) (fun hok4 hcl4 => ?_)
        refine al_call Tryz.call38 (.cons rfl .nil) rfl rfl (fun w7 hs7 => ?_)
        have hz9 := hs7.below.size
        have hcl : IsT 2 SpanD.cells w7 (some ⟨bc, 0, none⟩) R.ld (clL M (bgL M C) zs cell) := hs7.isT (.head _) (isT_box0 (n := 2) (enc := SpanD.cells) (fun _ => rfl) G4.box rfl (by rw [clL_len, hld])) (fun b o e => by cases e; exact Or.inl G3)
        have hai : AgIt ba bb R.ld R.ld (some ⟨bc, 0, none⟩) (clL M (bgL M C) zs cell) cur w7 := ⟨hcl, ((hs7.at 1 rfl).cell _ rfl 0 _ rfl).1, ((hs7.at 0 rfl).cell _ rfl 0 _ rfl).1, (hs7.at 1 rfl).lt, (hs7.at 0 rfl).lt⟩
        refine (hai.collect (by omega)).mono ?_
        rintro e u7 ⟨A_l, c_l, rfl, N_l, hb_7⟩
        refine ⟨_, rfl, hb_7, ?_⟩
        clear hs7
        refine al_end (ah_back hok4 hcl4 (fun w9 hs => ((hs.fewer 3 rfl).tail 2 rfl)) ?_)
        refine ah_one 10 rfl (by kernel_rfl) (fun hok5 hcl5 => ?_)
        refine al_p (q_assign rfl) ?_
        refine al_end (ah_back hok5 hcl5 (fun w9 hs => ((hs.fewer 3 rfl).tail 2 rfl)) ?_)
        refine ah_one 11 rfl (by kernel_rfl) (fun hok6 hcl6 => ?_)
        refine al_p (q_assign rfl) ?_
        refine al_end (ah_last (by kernel_rfl) ?_)
        refine aq_then ?_
        refine ac_ret ?_
        refine ret2 Tryz.results12 rfl rfl (fun w9 hs => ?_)
        have hin : inB C cell cur = true := by unfold inB; rw [qc, hx1, hx2]; rfl
        unfold agE agZ; rw [if_pos he, if_pos he, if_pos hin, if_pos hin]; exact OutT.ok ⟨hs.isT (.head _) N_l.isT (fun b o e => Or.inl (N_l.new _ e)), fun b o e => Nat.le_trans hz9 (N_l.new _ e), N_l.le, by have := N_l.cap; unfold maxLen at this; omega⟩ hs.below
end
end Go.Proofs.YtapldonpflgnfaaGreatDoor
