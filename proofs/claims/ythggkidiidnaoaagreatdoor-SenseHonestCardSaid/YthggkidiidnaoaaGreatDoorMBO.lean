import Derived.Test.YthggkidiidnaoaaGreatDoorMAD
import Derived.Test.YthggkidiidnaoaaGreatDoorMAL
import Derived.Test.YthggkidiidnaoaaGreatDoorMAM
import Derived.Test.YthggkidiidnaoaaGreatDoorMAT
import Derived.Test.YthggkidiidnaoaaGreatDoorMAX
import Derived.Test.YthggkidiidnaoaaGreatDoorMBB
import Derived.Test.YthggkidiidnaoaaGreatDoorMBK
import Derived.Test.YthggkidiidnaoaaGreatDoorMBN
import Derived.Test.YthggkidiidnaoaaGreatDoorRows
import Derived.KernelRfl
import Derived.Laws.StructEq
namespace Go.Proofs.YthggkidiidnaoaaGreatDoor
set_option linter.unusedVariables false
set_option linter.unusedSimpArgs false
section
open Go.RowKit
def zR2 : List Value := [.int .i64 0, .int .i64 0]
theorem tmod_bd {m d : Int} (hm : 0 ≤ m) (hd : 0 < d) : 0 ≤ m.tmod d ∧ m.tmod d < d := by
  rw [Int.tmod_eq_emod_of_nonneg hm]
  exact ⟨Int.emod_nonneg _ (by omega), Int.emod_lt_of_pos _ hd⟩
abbrev rmix (M : MachD) (C : CurD) (zs : List FaultD) (sd tn n j : Nat) : List Value := mixF n j (fun k => SpanD.cells (rdF M C zs sd tn k)) (fun _ => zR2)
def rdL (M : MachD) (C : CurD) (zs : List FaultD) (sd tn : Nat) : List SpanD := (List.range M.sensors.length).map (rdF M C zs sd tn)
theorem rdL_len (M : MachD) (C : CurD) (zs : List FaultD) (sd tn : Nat) : (rdL M C zs sd tn).length = M.sensors.length := by simp [rdL]
theorem rdL_flat (M : MachD) (C : CurD) (zs : List FaultD) (sd tn : Nat) : (rdL M C zs sd tn).flatMap SpanD.cells = (List.range M.sensors.length).flatMap (fun k => SpanD.cells (rdF M C zs sd tn k)) := by
  unfold rdL; rw [List.flatMap_map]
theorem srb_bl_apiSpan_0_1 (a0 a1 : Value) (ha0 : a0.oneCell' = true) (ha1 : a1.oneCell' = true) : ∀ w, (Instr.build 67 #[(0, a0), (1, a1)]).run Tryz.prog w = .ok (.agg #[a0, a1]) w := by
  have ea0 : a0.cells = #[a0] := cells_one ha0
  have ea1 : a1.cells = #[a1] := cells_one ha1
  intro w; simp [Instr.build, Instr.fill, cells_agg, Tryz.runUnderlying67, Tryz.zeroValue67, Tryz.sizeOf3, ea0, ea1]
set_option maxRecDepth 100000 in
theorem cread_ok (R : MachR) (M : MachD) (Q : CurR) (C : CurD) (F P : Option Addr) (nf cf np cp sd : Nat) (zs : List FaultD) (tn : Nat) (w : World) (hM : IsM w R M) (hC : IsC w Q C) (hF : IsT 4 FaultD.cells w F nf zs) (hn : nf ≤ 1000000000000000) (hK : Kinds w) (hv : Fit2 M C) (hfb : faultsB M zs = true) (htn : tn ≤ 1000000000) (hsd : sd < 4294967296) : Calls Tryz.prog 16 #[(.agg (machCells R M)), Q.v, (.agg #[.int .u32 ((sd : Nat) : Int), .slice F nf cf, .slice P np cp]), (.int .i64 (tn : Int))] w (OutT 2 SpanD.cells w 0 (rdL M C zs sd tn)) := by
  have hvc := fit2_iff.2 hv
  have hs0 := sound_of hv.check
  have hsn := hs0.sensors.1
  have hld := hM.sensors.1
  obtain ⟨hfl, hfs⟩ := faults_iff hfb
  have hnf := hF.1
  refine calls_ax (vs := [(.agg (machCells R M)), Q.v, (.agg #[.int .u32 ((sd : Nat) : Int), .slice F nf cf, .slice P np cp]), (.int .i64 (tn : Int))]) Tryz.func16 rfl rfl ?_
  refine ac_seq (ac_region ?_)
  refine al_new (fun b => .pointer (some ⟨b, 0, none⟩)) (r_box rfl rfl) rfl rfl rfl ?_
  intro b1
  refine al_new (fun b => .pointer (some ⟨b, 0, none⟩)) (r_box rfl rfl) rfl rfl rfl ?_
  intro b2
  refine al_new (fun b => .pointer (some ⟨b, 0, none⟩)) (r_box rfl rfl) rfl rfl rfl ?_
  intro b3
  refine al_p (q_assign rfl) (al_p (q_assign rfl) (al_end (aq_then ?_)))
  refine ac_seq (ac_seq (ac_region ?_))
  refine al_p (q_loadAll (i := 2) rfl rfl Tryz.isAgg29 Tryz.sizeOf29 rfl) (al_p (q_loadAll (i := 1) rfl rfl Tryz.isAgg32 Tryz.sizeOf32 rfl) (al_call Tryz.call40 (.cons rfl (.cons rfl .nil)) rfl rfl (fun w1 hs1 => ?_)))
  refine (validCurrents_any R M Q C _ (hM.below hs1.below) (hC.below hs1.below)).mono ?_
  rintro e u1 ⟨rfl, hb_1⟩
  refine ⟨_, rfl, hb_1, ?_⟩
  clear hs1
  refine al_p (q_not rfl) (al_p (q_move rfl) ?_)
  refine aq_split 19 rfl (fun hb1 => ?_) (fun hb1 => ?_)
  · exfalso; have h9 := hb1; rw [hvc] at h9; cases h9
  · skip
    refine al_p (q_loadAll (i := 2) rfl rfl Tryz.isAgg29 Tryz.sizeOf29 rfl) ?_
    refine al_p (q_fieldAddr 1 rfl Tryz.runUnderlying62 rfl Tryz.sizeOf59 (by decide) rfl) (al_p (q_load (i := 0) rfl rfl rfl Tryz.isAgg59) (al_call Tryz.call41 (.cons rfl (.cons rfl .nil)) rfl rfl (fun w2 hs2 => ?_)))
    refine (validFaults_any R M F nf cf zs _ (hM.below hs2.below) (hF.below hs2.below) hn (hK.below hs2.below)).mono ?_
    rintro e u2 ⟨rfl, hb_2⟩
    refine ⟨_, rfl, hb_2, ?_⟩
    clear hs2
    refine al_p (q_not rfl) (al_p (q_pickF rfl rfl) (al_end (aq_then ?_)))
    refine ac_cond rfl (fun h1 => ?_) (fun h1 => ?_)
    · exfalso; have h9 := h1; rw [hfb] at h9; cases h9
    · skip
      refine ac_skip (aq_then (ac_seq (ac_seq (ac_region ?_))))
      refine al_p (q_move rfl) (al_call Tryz.call32 (.cons rfl (.cons rfl (.cons rfl .nil))) rfl rfl (fun w3 hs3 => ?_))
      refine (seWithin_any (tn : Int) 0 1000000000 _).mono ?_
      rintro e u3 ⟨rfl, rfl⟩
      refine ⟨_, rfl, (Below.refl _ _), ?_⟩
      clear hs3
      refine al_p (q_not rfl) (al_end (aq_then ?_))
      refine ac_cond rfl (fun h2 => ?_) (fun h2 => ?_)
      · exfalso; have h9 := h2; rw [wthn_iff.2 ⟨by omega, by omega⟩] at h9; cases h9
      · skip
        refine ac_skip (aq_then (ac_seq (ac_region ?_)))
        refine al_p (q_fieldAddr 9 rfl Tryz.runUnderlying29 rfl Tryz.sizeOf27 (by decide) rfl) (al_p (q_load (i := 2) rfl rfl rfl Tryz.isAgg27) (al_p (q_lenS rfl Tryz.runUnderlying27) ?_))
        refine al_makeAgg (n := R.ld) (bytes := 16) (zv := (.agg #[.int .i64 0, .int .i64 0])) [(.int .i64 0), (.int .i64 0)] rfl rfl rfl Tryz.underlying33 (by kernel_rfl) rfl rfl rfl (by omega) (by decide) rfl rfl ?_
        intro b4
        refine al_p (q_assign rfl) (al_end (aq_then ?_))
        refine ac_seq (ac_seq (ac_region ?_))
        refine al_p (q_fieldAddr 9 rfl Tryz.runUnderlying29 rfl Tryz.sizeOf27 (by decide) rfl) (al_p (q_load (i := 3) rfl rfl rfl Tryz.isAgg27) (al_p (q_lenS rfl Tryz.runUnderlying27) (al_p (q_move rfl) (al_end (aq_then ?_)))))
        refine ac_block ?_
        refine ac_loop (β := Nat) (fun j => j ≤ R.ld) (fun j => [(3, (.int .i64 (tn : Int))), (4, (.pointer (some ⟨b1, 0, none⟩))), (5, (.pointer (some ⟨b2, 0, none⟩))), (6, (.pointer (some ⟨b3, 0, none⟩))), (8, (.slice none 0 0)), (9, (.int .i64 0)), (10, (.slice (some ⟨b4, 0, none⟩) (R.ld) (R.ld))), (34, (.slice (R.D) R.ld R.cd)), (35, (.int .i64 (R.ld : Int))), (36, (.int .i64 (j : Int)))]) (fun _ => _) (fun j => [(b4, .cells (rmix M C zs sd tn R.ld j)), (b3, _), (b2, _), (b1, _)]) (fun j => R.ld - j) 0 (by omega) ⟨rfl, rfl, rfl, rfl, rfl, rfl, rfl, rfl, rfl, rfl, trivial⟩ (fun w9 hs => (by rw [show rmix M C zs sd tn R.ld 0 = (List.range R.ld).flatMap (fun _ => zR2) from mixF_zero _ _ _]; exact hs)) (fun j hF1 => ?_)
        refine ac_seq (ac_region ?_)
        refine al_p (q_lss rfl rfl) (al_end (aq_then ?_))
        refine ac_seq ?_
        refine ac_cond rfl (fun h3 => ?_) (fun h3 => ?_)
        · have hjl : j < R.ld := by have := of_decide_eq_true h3; omega
          obtain ⟨b11, o11, hA1, hlt1, hget1⟩ := hM.sensors.2 (by omega)
          have hx1 := getD_get (l := M.sensors) (d := ⟨⟨#[]⟩, 0, 0, 0, 0⟩) (k := j) (by omega)
          have hse := (hs0.sensors.2 _ (List.mem_of_getElem? hx1)).2.2
          have hex := exactL_bd M C (j : Int)
          have hfg := faultGo_bd (j : Int) tn zs (exactL M C j).1 1000000000000000 (by omega) hex.1 hex.2
          have hmx := mixN_lt sd tn j
          have hmt := tmod_bd (m := (mixN sd tn j : Int)) (d := 2 * (M.sensors.getD j ⟨⟨#[]⟩, 0, 0, 0, 0⟩).error + 1) (by omega) (by omega)
          refine ac_skip (aq_then (ac_seq (ac_block (ac_seq (ac_region ?_)))))
          refine al_p (q_move rfl) ?_
          refine al_p (q_indexAddrA (i := j) (o11 + j * 5 + 0) hA1 rfl rfl rfl (by omega) Tryz.runUnderlying27 Tryz.sizeOf78 rfl) (al_p (q_loadXs (SensorD.cells (M.sensors.getD j ⟨⟨#[]⟩, 0, 0, 0, 0⟩)) rfl Tryz.isAgg78 Tryz.sizeOf78 (fun w9 hs j9 v9 h9 => by rw [addr_add]; exact (hs.below.cell (p := ⟨_, _, none⟩) hlt1).trans ((hget1 j _ hx1) j9 v9 h9)) rfl) (al_new (fun b => .pointer (some ⟨b, 0, none⟩)) (r_alloc Tryz.zeroValue78 rfl) rfl rfl rfl ?_))
          intro b5
          refine al_p (q_assign rfl) (al_storeAll (i := 0) rfl rfl rfl rfl Tryz.sizeOf78 rfl rfl .k0 rfl (al_end (aq_then ?_)))
          refine ac_seq (ac_region ?_)
          refine al_p (q_loadAll (i := 4) rfl rfl Tryz.isAgg29 Tryz.sizeOf29 rfl) (al_p (q_loadAll (i := 3) rfl rfl Tryz.isAgg32 Tryz.sizeOf32 rfl) (al_p (q_move rfl) (al_call Tryz.call42 (.cons rfl (.cons rfl (.cons rfl .nil))) rfl rfl (fun w4 hs4 => ?_))))
          refine (exact9_any R M Q C (j : Int) _ (hM.below hs4.below) (hC.below hs4.below) (by omega) (by omega)).mono ?_
          rintro e u4 ⟨rfl, hb_4⟩
          refine ⟨_, rfl, hb_4, ?_⟩
          clear hs4
          refine al_p (q_move rfl) (al_p (q_extract rfl rfl) (al_p (q_extract rfl rfl) (al_p (q_assign rfl) (al_p (q_assign rfl) ?_))))
          refine al_end (aq_then ?_)
          refine ac_seq (ac_region ?_)
          refine al_p (q_move rfl) ?_
          refine al_p (q_fieldAddr 1 rfl Tryz.runUnderlying62 rfl Tryz.sizeOf59 (by decide) rfl) (al_p (q_load (i := 2) rfl rfl rfl Tryz.isAgg59) (al_p (q_move rfl) (al_p (q_move rfl) (al_call Tryz.call43 (.cons rfl (.cons rfl (.cons rfl (.cons rfl .nil)))) rfl rfl (fun w5 hs5 => ?_)))))
          refine (faulty_any (exactL M C (j : Int)).1 (j : Int) (tn : Int) F nf cf zs _ (hF.below hs5.below) (by omega) (by omega) (by omega) hfs).mono ?_
          rintro e u5 ⟨rfl, hb_5⟩
          refine ⟨_, rfl, hb_5, ?_⟩
          clear hs5
          refine al_p (q_assign rfl) (al_end (aq_then ?_))
          refine ac_seq (ac_draw 18 (by kernel_rfl) (by kernel_rfl) ?_)
          refine ah_t 0 (fun w9 hs => hs) rfl rfl (by kernel_rfl) (q_move rfl) ?_
          refine ah_t 1 (fun w9 hs => hs) rfl rfl (by kernel_rfl) (q_fieldAddr 0 rfl Tryz.runUnderlying62 rfl Tryz.sizeOf58 (by decide) rfl) (ah_t 2 (fun w9 hs => hs) rfl rfl (by kernel_rfl) (q_load (i := 2) rfl rfl rfl Tryz.isAgg58) (ah_t 3 (fun w9 hs => hs) rfl rfl (by kernel_rfl) (q_move rfl) ?_))
          refine ah_t 4 (fun w9 hs => hs) rfl rfl (by kernel_rfl) (q_convI rfl Tryz.underlying3 Tryz.underlying58 (by go_arith)) (ah_t 5 (fun w9 hs => hs) rfl rfl (by kernel_rfl) (q_move rfl) ?_)
          refine ah_t 6 (fun w9 hs => hs) rfl rfl (by kernel_rfl) (q_convI rfl Tryz.underlying3 Tryz.underlying58 (by go_arith)) ?_
          refine ah_t 9 (fun w9 hs => hs) rfl rfl (by kernel_rfl) (q_fieldAddr 4 rfl Tryz.runUnderlying78 rfl Tryz.sizeOf3 (by decide) rfl) (ah_t 10 (fun w9 hs => hs) rfl rfl (by kernel_rfl) (q_load (i := 0) rfl rfl rfl Tryz.isAgg3) ?_)
          refine ah_t 11 (fun w9 hs => hs) rfl rfl (by kernel_rfl) (q_mul rfl rfl (by omega)) ?_
          refine ah_t 12 (fun w9 hs => hs) rfl rfl (by kernel_rfl) (q_add rfl rfl (by omega)) ?_
          refine ah_t 14 (fun w9 hs => hs) rfl rfl (by kernel_rfl) (q_fieldAddr 4 rfl Tryz.runUnderlying78 rfl Tryz.sizeOf3 (by decide) rfl) (ah_t 15 (fun w9 hs => hs) rfl rfl (by kernel_rfl) (q_load (i := 0) rfl rfl rfl Tryz.isAgg3) (ah_one 7 rfl (by kernel_rfl) (fun hok1 hcl1 => ?_)))
          refine al_call Tryz.call44 (.cons rfl (.cons rfl (.cons rfl .nil))) rfl rfl (fun w6 hs6 => ?_)
          refine (mix_any sd tn j _ hsd (by omega) (by omega)).mono ?_
          rintro e u6 ⟨rfl, rfl⟩
          refine ⟨_, rfl, (Below.refl _ _), ?_⟩
          clear hs6
          refine al_end (ah_back hok1 hcl1 (fun w9 hs => (hs.fewer 1 rfl)) ?_)
          refine ah_t 8 (fun w9 hs => (hs.fewer 1 rfl)) rfl rfl (by kernel_rfl) (q_convI rfl Tryz.underlying58 Tryz.underlying3 (by go_arith)) ?_
          refine ah_t 13 (fun w9 hs => (hs.fewer 1 rfl)) rfl rfl (by kernel_rfl) (q_rem rfl rfl (by omega)) ?_
          refine ah_t 16 (fun w9 hs => (hs.fewer 1 rfl)) rfl rfl (by kernel_rfl) (q_sub rfl rfl (by omega)) ?_
          refine ah_t 17 (fun w9 hs => (hs.fewer 1 rfl)) rfl rfl (by kernel_rfl) (q_add rfl rfl (by omega)) (ah_one 18 rfl (by kernel_rfl) (fun hok2 hcl2 => ?_))
          refine al_p (q_assign rfl) (al_end (ah_last (by kernel_rfl) ?_))
          refine aq_then (ac_region (al_p (q_move rfl) (al_p (q_move rfl) (al_p (q_move rfl) ?_))))
          refine al_p (q_fieldAddr 4 rfl Tryz.runUnderlying78 rfl Tryz.sizeOf3 (by decide) rfl) (al_p (q_load (i := 0) rfl rfl rfl Tryz.isAgg3) ?_)
          refine al_p (q_sub rfl rfl (by omega)) (al_p (q_move rfl) ?_)
          refine al_p (q_fieldAddr 4 rfl Tryz.runUnderlying78 rfl Tryz.sizeOf3 (by decide) rfl) (al_p (q_load (i := 0) rfl rfl rfl Tryz.isAgg3) ?_)
          refine al_p (q_add rfl rfl (by omega)) (al_p (q_build (.cons rfl (.cons rfl .nil)) (srb_bl_apiSpan_0_1 _ _ rfl rfl)) ?_)
          refine al_p (q_indexAddr (i := j) (0 + j * 2) rfl rfl rfl (by omega) Tryz.runUnderlying33 Tryz.sizeOf67 rfl) ?_
          refine al_storeV (i := 1) (cs' := (rmix M C zs sd tn R.ld (j + 1))) (vs := (SpanD.cells (rdF M C zs sd tn j))) rfl rfl rfl Tryz.sizeOf67 rfl (by rw [mixF_len (z := 2) (fun _ => rfl) (fun _ => rfl)]; omega) rfl (by have h := mixF_store (n := R.ld) (k := j) (z := 2) (F := (fun k => SpanD.cells (rdF M C zs sd tn k))) (G := fun _ => zR2) (fun _ => rfl) (fun _ => rfl) hjl; rw [Nat.zero_add]; exact h) .k1 rfl ?_
          refine al_end (aq_inN (aq_then (aq_keepL [3, 4, 5, 6, 8, 9, 10, 11, 12, 13, 34, 35, 36, 37, 38, 39, 40, 41, 42, 43, 44, 45, 46, 47, 48, 49, 50, 51, 52, 53, 54, 55, 56, 57, 58, 59, 60, 61, 62, 63, 64, 65, 66, 67, 68, 69, 70, 71, 72, 73, 74, 75, 76, 77, 78, 79, 80, 81, 82, 83] (.cons rfl (.cons rfl (.cons rfl (.cons rfl (.cons rfl (.cons rfl (.cons rfl (.cons rfl (.cons rfl (.cons rfl (.cons rfl (.cons rfl (.cons rfl (.cons rfl (.cons rfl (.cons rfl (.cons rfl (.cons rfl (.cons rfl (.cons rfl (.cons rfl (.cons rfl (.cons rfl (.cons rfl (.cons rfl (.cons rfl (.cons rfl (.cons rfl (.cons rfl (.cons rfl (.cons rfl (.cons rfl (.cons rfl (.cons rfl (.cons rfl (.cons rfl (.cons rfl (.cons rfl (.cons rfl (.cons rfl (.cons rfl (.cons rfl (.cons rfl (.cons rfl (.cons rfl (.cons rfl (.cons rfl (.cons rfl (.cons rfl (.cons rfl (.cons rfl (.cons rfl (.cons rfl (.cons rfl (.cons rfl (.cons rfl (.cons rfl (.cons rfl (.cons rfl (.cons rfl .nil)))))))))))))))))))))))))))))))))))))))))))))))))))))))))))) ?_)))
          refine ac_region ?_
          refine al_p (q_add rfl rfl (by omega)) (al_p (q_move rfl) (al_end (aq_then ?_)))
          skip
          refine aq_round (j + 1) (by omega) (by omega) ⟨rfl, rfl, rfl, rfl, rfl, rfl, rfl, rfl, rfl, rfl, trivial⟩ (fun w9 hs => ((hs.fewer 3 rfl).tail 1 rfl))
        · have hje : j = R.ld := by have := of_decide_eq_false h3; omega
          refine ac_exit (aq_thenE (aq_thenE (aq_hit (aq_then ?_))))
          refine ac_seq (ac_region ?_)
          refine al_p (q_move rfl) (al_p (q_assign rfl) (al_p (q_assign rfl) (al_end (aq_then ?_))))
          refine ac_ret (ret2 Tryz.results16 rfl rfl (fun w9 hs => ?_))
          exact OutT.ok (A := some ⟨b4, 0, none⟩) (n := R.ld) (c := R.ld) ⟨isT_box0 (n := 2) (enc := SpanD.cells) (fun _ => rfl) (hs.at 0 rfl) (by rw [hje, rmix, mixF_all, rdL_flat, hld]) (by rw [rdL_len, hld]), hs.new 0 rfl, by omega, by omega⟩ hs.below
end
section
abbrev Bst := Int × Int × Int
def accC (cnt : Int → Int) (i : Int) (s : Bst) (x : Int) : Bst := if s.1 < cnt x then (cnt x, i, x) else s
def accS (cnt : Int → Int) (i : Int) (s : Bst) (x : Int) : Bst := if s.1 < cnt x ∨ (cnt x = s.1 ∧ s.2.1 = i ∧ x < s.2.2) then (cnt x, i, x) else s
def AccR (cnt : Int → Int) (i : Int) (s0 : Bst) (l : List Int) (s : Bst) : Prop :=
  ((∀ x ∈ l, cnt x ≤ s0.1) ∧ s = s0) ∨ ∃ X ∈ l, s = (cnt X, i, X) ∧ s0.1 < cnt X ∧ ∀ y ∈ l, cnt y < cnt X ∨ (cnt y = cnt X ∧ X ≤ y)
theorem AccR.mem {cnt : Int → Int} {i : Int} {s0 s : Bst} {l l' : List Int} (h : AccR cnt i s0 l s) (hm : ∀ x, x ∈ l ↔ x ∈ l') : AccR cnt i s0 l' s := by
  rcases h with ⟨h1, h2⟩ | ⟨X, hX, h1, h2, h3⟩
  · exact Or.inl ⟨fun x hx => h1 x ((hm x).2 hx), h2⟩
  · exact Or.inr ⟨X, (hm X).1 hX, h1, h2, fun y hy => h3 y ((hm y).2 hy)⟩
theorem AccR.uniq {cnt : Int → Int} {i : Int} {s0 s s' : Bst} {l : List Int} (h : AccR cnt i s0 l s) (h' : AccR cnt i s0 l s') : s = s' := by
  rcases h with ⟨h1, h2⟩ | ⟨X, hX, h1, h2, h3⟩
  · rcases h' with ⟨-, g2⟩ | ⟨Y, hY, g1, g2, g3⟩
    · rw [h2, g2]
    · have := h1 Y hY; omega
  · rcases h' with ⟨g1, -⟩ | ⟨Y, hY, g1, g2, g3⟩
    · have := g1 X hX; omega
    · have a := h3 Y hY
      have b := g3 X hX
      obtain rfl : X = Y := by omega
      rw [h1, g1]
theorem accS_all (cnt : Int → Int) (i : Int) (s0 : Bst) (h0 : s0.2.1 = i → s0.1 < 0) (hc : ∀ x, 0 ≤ cnt x) : ∀ (p l : List Int) (s : Bst), AccR cnt i s0 p s → AccR cnt i s0 (p ++ l) (l.foldl (accS cnt i) s)
  | p, [], s, h => by simpa using h
  | p, x :: l, s, h => by
    have step : AccR cnt i s0 (p ++ [x]) (accS cnt i s x) := by
      unfold accS
      rcases h with ⟨h1, h2⟩ | ⟨X, hX, h1, h2, h3⟩
      · subst h2
        by_cases g : s.1 < cnt x
        · rw [if_pos (Or.inl g)]
          refine Or.inr ⟨x, by simp, rfl, g, fun y hy => ?_⟩
          rcases List.mem_append.1 hy with e | e
          · have := h1 y e; exact Or.inl (by omega)
          · rw [List.mem_singleton.1 e]; exact Or.inr ⟨rfl, Int.le_refl _⟩
        · rw [if_neg (fun e => by
            rcases e with e | ⟨e1, e2, e3⟩
            · exact g e
            · have := h0 e2; have := hc x; omega)]
          refine Or.inl ⟨fun y hy => ?_, rfl⟩
          rcases List.mem_append.1 hy with e | e
          · exact h1 y e
          · rw [List.mem_singleton.1 e]; omega
      · subst h1
        simp only
        by_cases g : cnt X < cnt x ∨ (cnt x = cnt X ∧ x < X)
        · rw [if_pos (g.elim (fun e => Or.inl e) (fun e => Or.inr ⟨e.1, trivial, e.2⟩))]
          refine Or.inr ⟨x, by simp, rfl, by omega, fun y hy => ?_⟩
          rcases List.mem_append.1 hy with e | e
          · have := h3 y e; omega
          · rw [List.mem_singleton.1 e]; exact Or.inr ⟨rfl, Int.le_refl _⟩
        · rw [if_neg (fun e => by
            rcases e with e | ⟨e1, -, e3⟩
            · exact g (Or.inl e)
            · exact g (Or.inr ⟨e1, e3⟩))]
          refine Or.inr ⟨X, by simp [hX], rfl, h2, fun y hy => ?_⟩
          rcases List.mem_append.1 hy with e | e
          · exact h3 y e
          · rw [List.mem_singleton.1 e]; omega
    have := accS_all cnt i s0 h0 hc (p ++ [x]) l _ step
    rw [List.append_assoc] at this
    exact this
theorem accC_all (cnt : Int → Int) (i : Int) (s0 : Bst) : ∀ (p l : List Int) (s : Bst), (p ++ l).Pairwise (fun x y => x ≤ y) → AccR cnt i s0 p s → AccR cnt i s0 (p ++ l) (l.foldl (accC cnt i) s)
  | p, [], s, _, h => by simpa using h
  | p, x :: l, s, hp, h => by
    have hpx : ∀ y ∈ p, y ≤ x := fun y hy => (List.pairwise_append.1 hp).2.2 y hy x (by simp)
    have step : AccR cnt i s0 (p ++ [x]) (accC cnt i s x) := by
      unfold accC
      rcases h with ⟨h1, h2⟩ | ⟨X, hX, h1, h2, h3⟩
      · subst h2
        by_cases g : s.1 < cnt x
        · rw [if_pos g]
          refine Or.inr ⟨x, by simp, rfl, g, fun y hy => ?_⟩
          rcases List.mem_append.1 hy with e | e
          · have := h1 y e; exact Or.inl (by omega)
          · rw [List.mem_singleton.1 e]; exact Or.inr ⟨rfl, Int.le_refl _⟩
        · rw [if_neg g]
          refine Or.inl ⟨fun y hy => ?_, rfl⟩
          rcases List.mem_append.1 hy with e | e
          · exact h1 y e
          · rw [List.mem_singleton.1 e]; omega
      · subst h1
        simp only
        have hXx := hpx X hX
        by_cases g : cnt X < cnt x
        · rw [if_pos g]
          refine Or.inr ⟨x, by simp, rfl, by omega, fun y hy => ?_⟩
          rcases List.mem_append.1 hy with e | e
          · have := h3 y e; omega
          · rw [List.mem_singleton.1 e]; exact Or.inr ⟨rfl, Int.le_refl _⟩
        · rw [if_neg g]
          refine Or.inr ⟨X, by simp [hX], rfl, h2, fun y hy => ?_⟩
          rcases List.mem_append.1 hy with e | e
          · exact h3 y e
          · rw [List.mem_singleton.1 e]; omega
    have := accC_all cnt i s0 (p ++ [x]) l _ (by rw [List.append_assoc]; exact hp) step
    rw [List.append_assoc] at this
    exact this
theorem acc_cell (cnt : Int → Int) (i : Int) (s0 : Bst) (h0 : s0.2.1 = i → s0.1 < 0) (hc : ∀ x, 0 ≤ cnt x) (l : List Int) : (sortI l).foldl (accC cnt i) s0 = l.foldl (accS cnt i) s0 := by
  have hp : (sortI l).Perm l := List.mergeSort_perm _ _
  have hs : (sortI l).Pairwise (fun x y => x ≤ y) := by
    have := List.pairwise_mergeSort (le := fun (x y : Int) => decide (x ≤ y)) (fun a b c h1 h2 => by simp at *; omega) (fun a b => by simp; omega) l
    exact this.imp fun h => by simpa using h
  have a := accC_all cnt i s0 [] (sortI l) s0 (by simpa using hs) (Or.inl ⟨fun x hx => (by cases hx), rfl⟩)
  have b := accS_all cnt i s0 h0 hc [] l s0 (Or.inl ⟨fun x hx => (by cases hx), rfl⟩)
  rw [List.nil_append] at a b
  exact (a.mem fun x => hp.mem_iff).uniq b
def accU (cnt : Int → Int → Int) (tries : Int → List Int) : Nat → Bst
  | 0 => (-1, 0, 0)
  | k + 1 => (tries (k : Int)).foldl (accS (cnt (k : Int)) (k : Int)) (accU cnt tries k)
theorem accU_lt (cnt : Int → Int → Int) (tries : Int → List Int) (hc : ∀ i x, 0 ≤ cnt i x) : ∀ k : Nat, (accU cnt tries k).1 < 0 ∧ accU cnt tries k = (-1, 0, 0) ∨ (accU cnt tries k).2.1 < (k : Int)
  | 0 => Or.inl ⟨by show (-1 : Int) < 0; omega, rfl⟩
  | k + 1 => by
    have ih := accU_lt cnt tries hc k
    have h0 : (accU cnt tries k).2.1 = (k : Int) → (accU cnt tries k).1 < 0 := fun e => by
      rcases ih with ⟨h, -⟩ | h
      · exact h
      · omega
    have b := accS_all (cnt (k : Int)) (k : Int) (accU cnt tries k) h0 (hc _) [] (tries (k : Int)) _ (Or.inl ⟨fun x hx => (by cases hx), rfl⟩)
    rw [List.nil_append] at b
    change AccR _ _ _ _ (accU cnt tries (k + 1)) at b
    rcases b with ⟨-, e⟩ | ⟨X, -, e, -, -⟩
    · rw [e]
      rcases ih with h | h
      · exact Or.inl h
      · exact Or.inr (by omega)
    · rw [e]; exact Or.inr (by simp only; omega)
theorem accU_code (cnt : Int → Int → Int) (tries : Int → List Int) (hc : ∀ i x, 0 ≤ cnt i x) (k : Nat) : (sortI (tries (k : Int))).foldl (accC (cnt (k : Int)) (k : Int)) (accU cnt tries k) = accU cnt tries (k + 1) :=
  acc_cell _ _ _ (fun e => by
    rcases accU_lt cnt tries hc k with ⟨h, -⟩ | h
    · exact h
    · omega) (hc _) _
end
section
set_option autoImplicit false
open Go.RowKit
section
variable {P : Program} {e0 : Cfg} {U : Snaps} {l : Slots} {L : Boxes} {ops : Array Oper} {Q : Exit → Act → World → Prop} {rest : List Oper} {d : Nat} {ty : TypeId} {pos : String} {af : Array Edge} {g : Option (Nat × Bool)}
theorem al_mapUpdate {t kt vt r i k : Nat} {kd : TypeDesc} {es : List MapEntry} {kv vv : Value} {om ok ov : Operand} (hm : E l om = some (.map (some r))) (hk : E l ok = some kv) (hv : E l ov = some vv) (hi : L[i]? = some (r, .map es k))
    (hu : P.underlying t = some (.map kt vt)) (hku : P.underlying kt = some kd) (hp : plainKey kv = true) (hd : plainKind kd = true) (hf : Instr.findNow kd kv es 0 = some none)
    {L' : Boxes} (hL : SetAt i (r, .map (es ++ [⟨kv, vv, k⟩]) (k + 1)) L L') (hw : want ops l g = some true) (kk : AL P ops Q e0 U l L' rest) :
    AL P ops Q e0 U l L (⟨none, .mapUpdate t om ok ov, ty, pos, af, g⟩ :: rest) := by
  intro a w hfr hs
  unfold wpList
  rw [if_pos (want_ok hfr hw)]
  refine Or.inl ?_
  unfold Oper.wp
  have hmap := hs.map hi
  have hlt : r < w.heap.size := (hs.box i r _ hi).2.lt
  have hck := run_checkKey (P := P) (n := 9999) (b := false) hku hp hd w
  have hrun : (execOp a.eval ⟨none, .mapUpdate t om ok ov, ty, pos, af, g⟩).run P w = .ok .skip { w with heap := w.heap.setIfInBounds r (.map (es ++ [({ key := kv, val := vv, born := k } : MapEntry)]).toArray (k + 1)) } := by
    simp [execOp, Instr.mapUpdate, hfr.ev hm, hfr.ev hk, hfr.ev hv, run_underlying hu, getObj, setObj, Sem.run, hmap, hck, Instr.findKey, run_underlying hku, hf]
  rw [hrun]
  show wpList P ops Q rest (a.put none undef) _
  rw [hL.eq] at kk
  refine kk a _ hfr (hs.change hi ⟨rfl, rfl, rfl, by simp, fun m _ hm => ?_⟩ ⟨by simpa using hlt, fun ds hd => (by cases hd), fun fs m hc => ?_⟩)
  · have : r ≠ m := fun e => hm (by simp [e])
    simp [Array.getElem?_setIfInBounds, this]
  · cases hc
    simp [Array.getElem?_setIfInBounds, hlt]
theorem al_delete0 {t kt vt r i k j : Nat} {kd : TypeDesc} {es : List MapEntry} {kv v : Value} {om ok : Operand} (hm : E l om = some (.map (some r))) (hk : E l ok = some kv) (hi : L[i]? = some (r, .map es k))
    (hu : P.underlying t = some (.map kt vt)) (hku : P.underlying kt = some kd) (hp : plainKey kv = true) (hd : plainKind kd = true) (hf : Instr.findNow kd kv es 0 = some (some (j, v))) (hj : j < es.length)
    {ts : Array TypeId} (hts : ts[0]? = some t) {L' : Boxes} (hL : SetAt i (r, .map (es.eraseIdx j) k) L L') (hw : want ops l g = some true) (kk : AL P ops Q e0 U l L' rest) :
    AL P ops Q e0 U l L (⟨none, .call { callee := .builtin .delete, args := #[om, ok], argTypes := ts }, ty, pos, af, g⟩ :: rest) := by
  intro a w hfr hs
  unfold wpList
  rw [if_pos (want_ok hfr hw)]
  refine Or.inl ?_
  unfold Oper.wp
  have hmap := hs.map hi
  have hlt : r < w.heap.size := (hs.box i r _ hi).2.lt
  have hck := fun b => run_checkKey (P := P) (n := 9999) (b := b) hku hp hd w
  have hrun : (execOp a.eval ⟨none, .call { callee := .builtin .delete, args := #[om, ok], argTypes := ts }, ty, pos, af, g⟩).run P w = .ok (.value (.tuple #[])) { w with heap := w.heap.setIfInBounds r (.map (es.eraseIdx j).toArray k) } := by
    simp [execOp, resolve, invoke, builtin, Builtin.delete_, hfr.ev hm, hfr.ev hk, hts, run_underlying hu, getObj, setObj, Sem.run, hmap, hck, Instr.findKey, run_underlying hku, hf, Array.eraseIdxIfInBounds, hj]
  rw [hrun]
  show wpList P ops Q rest (a.put none (.tuple #[])) _
  rw [hL.eq] at kk
  refine kk a _ hfr (hs.change hi ⟨rfl, rfl, rfl, by simp, fun m _ hm => ?_⟩ ⟨by simpa using hlt, fun ds hd => (by cases hd), fun fs m hc => ?_⟩)
  · have : r ≠ m := fun e => hm (by simp [e])
    simp [Array.getElem?_setIfInBounds, this]
  · cases hc
    simp [Array.getElem?_setIfInBounds, hlt]
end
def entK (ks : List Nat) : List MapEntry := ks.map fun (j : Nat) => ⟨.int .i64 (j : Int), .bool true, j⟩
theorem find_no {x : Nat} : ∀ (ks : List Nat) (i : Nat), x ∉ ks → Instr.findNow (.int .i64) (.int .i64 (x : Int)) (entK ks) i = some none
  | [], i, _ => rfl
  | y :: ks, i, h => by
    have hne : ¬ x = y := fun e => h (by simp [e])
    show (match Instr.sameNow (.int .i64) (.int .i64 (x : Int)) (.int .i64 (y : Int)) with
      | some true => _ | some false => Instr.findNow _ _ (entK ks) (i + 1) | none => none) = _
    have : Instr.sameNow (.int .i64) (.int .i64 (x : Int)) (.int .i64 (y : Int)) = some false := by simp [Instr.sameNow]; omega
    rw [this]
    exact find_no ks (i + 1) fun hm => h (by simp [hm])
theorem find_yes {x : Nat} : ∀ (ks : List Nat) (i : Nat), x ∈ ks → ∃ j, Instr.findNow (.int .i64) (.int .i64 (x : Int)) (entK ks) i = some (some (i + j, .bool true)) ∧ ks[j]? = some x
  | [], i, h => by cases h
  | y :: ks, i, h => by
    by_cases hne : x = y
    · subst hne
      refine ⟨0, ?_, rfl⟩
      show (match Instr.sameNow (.int .i64) (.int .i64 (x : Int)) (.int .i64 (x : Int)) with
        | some true => _ | some false => _ | none => none) = _
      have : Instr.sameNow (.int .i64) (.int .i64 (x : Int)) (.int .i64 (x : Int)) = some true := by simp [Instr.sameNow]
      rw [this]; rfl
    · obtain ⟨j, h1, h2⟩ := find_yes ks (i + 1) (by simpa [hne] using h)
      refine ⟨j + 1, ?_, by simpa using h2⟩
      show (match Instr.sameNow (.int .i64) (.int .i64 (x : Int)) (.int .i64 (y : Int)) with
        | some true => _ | some false => Instr.findNow _ _ (entK ks) (i + 1) | none => none) = _
      have : Instr.sameNow (.int .i64) (.int .i64 (x : Int)) (.int .i64 (y : Int)) = some false := by simp [Instr.sameNow]; omega
      rw [this]
      show Instr.findNow _ _ (entK ks) (i + 1) = _
      rw [h1, show i + 1 + j = i + (j + 1) from by omega]
theorem entK_erase : ∀ (ks : List Nat) (j : Nat), (entK ks).eraseIdx j = entK (ks.eraseIdx j)
  | [], j => rfl
  | y :: ks, 0 => rfl
  | y :: ks, j + 1 => by
    have := entK_erase ks j
    unfold entK at this ⊢
    rw [List.map_cons, List.eraseIdx_cons_succ, List.eraseIdx_cons_succ, List.map_cons, this]
theorem erase_filter {x : Nat} : ∀ {ks : List Nat} {j : Nat}, ks.Nodup → ks[j]? = some x → ks.eraseIdx j = ks.filter (fun y => !(y == x))
  | [], j, _, h => by cases h
  | y :: ks, 0, hn, h => by
    obtain rfl : y = x := by simpa using h
    have := (List.nodup_cons.1 hn).1
    rw [List.eraseIdx_cons_zero, List.filter_cons]
    simp only [beq_self_eq_true, Bool.not_true, Bool.false_eq_true, if_false]
    exact (List.filter_eq_self.2 fun z hz => by simp; exact fun e => this (e ▸ hz)).symm
  | y :: ks, j + 1, hn, h => by
    have h' : ks[j]? = some x := by simpa using h
    obtain ⟨h1, h2⟩ := List.nodup_cons.1 hn
    have hne : y ≠ x := fun e => h1 (e ▸ List.mem_of_getElem? h')
    rw [List.eraseIdx_cons_succ, erase_filter h2 h', List.filter_cons]
    simp [hne]
end
section
open Go.RowKit
def lyN (zs : List SpanD) (cur : Int) : List Nat := (List.range zs.length).filter fun k => !(cont (zs.getD k ⟨0, 0⟩).lo (zs.getD k ⟨0, 0⟩).hi cur)
def agN (zs : List SpanD) (cur : Int) : List Nat := (List.range zs.length).filter fun k => cont (zs.getD k ⟨0, 0⟩).lo (zs.getD k ⟨0, 0⟩).hi cur
theorem agL_map (zs : List SpanD) (cur : Int) : agL zs cur = (agN zs cur).map fun (k : Nat) => (k : Int) := by
  unfold agL agN
  induction List.range zs.length with
  | nil => rfl
  | cons k l ih =>
    rw [List.filterMap_cons, List.filter_cons]
    unfold agF at ih ⊢
    by_cases h : cont (zs.getD k ⟨0, 0⟩).lo (zs.getD k ⟨0, 0⟩).hi cur = true
    · rw [if_pos h, if_pos h, List.map_cons, ih]
    · rw [if_neg h, if_neg h, ih]
def remK (zs : List SpanD) (cur : Int) (k : Nat) : List Nat := (List.range zs.length).filter fun j => !(((agN zs cur).take k).contains j)
theorem remK_zero (zs : List SpanD) (cur : Int) : remK zs cur 0 = List.range zs.length := by
  unfold remK; simp
theorem agN_nodup (zs : List SpanD) (cur : Int) : (agN zs cur).Nodup := List.nodup_range.filter _
theorem remK_nodup (zs : List SpanD) (cur : Int) (k : Nat) : (remK zs cur k).Nodup := List.nodup_range.filter _
theorem remK_all (zs : List SpanD) (cur : Int) (k : Nat) (hk : (agN zs cur).length ≤ k) : remK zs cur k = lyN zs cur := by
  unfold remK lyN
  rw [List.take_of_length_le hk]
  refine List.filter_congr fun j hj => ?_
  congr 1
  rw [Bool.eq_iff_iff, List.contains_iff_mem]
  unfold agN
  rw [List.mem_filter]
  exact ⟨fun h => h.2, fun h => ⟨hj, h⟩⟩
theorem remK_step {zs : List SpanD} {cur x : Int} {k : Nat} (h : (agL zs cur)[k]? = some x) : ∃ y : Nat, x = (y : Int) ∧ y ∈ remK zs cur k ∧ remK zs cur (k + 1) = (remK zs cur k).filter (fun z => !(z == y)) := by
  rw [agL_map, List.getElem?_map] at h
  cases hy : (agN zs cur)[k]? with
  | none => rw [hy] at h; cases h
  | some y =>
    rw [hy] at h
    have hx : (y : Int) = x := Option.some.inj h
    have hlt := (List.getElem?_eq_some_iff.1 hy).1
    have hyn : y ∉ (agN zs cur).take k := fun hm => by
      obtain ⟨j, hj⟩ := List.getElem?_of_mem hm
      have hjk : j < k := by have := (List.getElem?_eq_some_iff.1 hj).1; rw [List.length_take] at this; omega
      rw [List.getElem?_take_of_lt hjk] at hj
      obtain ⟨a1, h1⟩ := List.getElem?_eq_some_iff.1 hj
      obtain ⟨a2, h2⟩ := List.getElem?_eq_some_iff.1 hy
      exact List.pairwise_iff_getElem.1 (agN_nodup zs cur) j k a1 a2 hjk (h1.trans h2.symm)
    have hyr : y ∈ List.range zs.length := by
      have := List.mem_of_getElem? hy
      unfold agN at this
      exact (List.mem_filter.1 this).1
    refine ⟨y, hx.symm, ?_, ?_⟩
    · unfold remK
      rw [List.mem_filter]
      exact ⟨hyr, by simpa using hyn⟩
    · unfold remK
      rw [List.filter_filter]
      refine List.filter_congr fun j hj => ?_
      rw [List.take_add_one, hy]
      by_cases hjy : j = y
      · subst hjy; simp
      · have : (j == y) = false := by simpa using hjy
        simp [this, hjy]
theorem remK_del {zs : List SpanD} {cur x : Int} {k : Nat} (h : (agL zs cur)[k]? = some x) : ∃ (y j : Nat), x = (y : Int) ∧ Instr.findNow (.int .i64) (.int .i64 (y : Int)) (entK (remK zs cur k)) 0 = some (some (j, .bool true)) ∧ j < (entK (remK zs cur k)).length ∧ (entK (remK zs cur k)).eraseIdx j = entK (remK zs cur (k + 1)) := by
  obtain ⟨y, h1, h2, h3⟩ := remK_step h
  obtain ⟨j, h4, h5⟩ := find_yes (remK zs cur k) 0 h2
  rw [Nat.zero_add] at h4
  refine ⟨y, j, h1, h4, ?_, by rw [entK_erase, h3, erase_filter (remK_nodup zs cur k) h5]⟩
  unfold entK; rw [List.length_map]; exact (List.getElem?_eq_some_iff.1 h5).1
theorem entR_succ (k : Nat) : entK (List.range (k + 1)) = entK (List.range k) ++ [⟨.int .i64 (k : Int), .bool true, k⟩] := by
  unfold entK; rw [List.range_succ, List.map_append]; rfl
theorem one9 {w : World} {b : Nat} {v : Value} (h : w.cell? ⟨b, 0, none⟩ = some v) : ∀ (j : Nat) (u : Value), [v][j]? = some u → w.cell? ⟨b, 0 + j, none⟩ = some u := fun j u hj => by
  cases j with
  | zero => cases hj; exact h
  | succ j => simp at hj
def SortedOK : Prop := ∀ (bk bm : Nat) (ks : List Nat) (c : Nat) (W : World), W.cell? ⟨bk, 0, none⟩ = some (.map (some bm)) → bk < W.heap.size → W.heap[bm]? = some (.map (entK ks).toArray c) → bm < W.heap.size → ks.Pairwise (fun x y => x < y) → ks.length ≤ 1000 → (∀ k ∈ ks, k < c) → c ≤ 1000 →
  Calls Tryz.prog 52 #[.func (.func 92) #[] #[.pointer (some ⟨bk, 0, none⟩)]] W (fun e w' => ∃ A n c, e = .returned (.slice A n c) ∧ NewT 1 intCells W.heap.size w' A n c (ks.map fun (k : Nat) => (k : Int)) ∧ Below W.heap.size W w')
set_option maxRecDepth 100000 in
theorem keys_own (m : Option Nat) (w : World) : Calls Tryz.prog 53 #[(.map m)] w (fun e w' => ∃ b1, e = .returned (.func (.func 92) #[] #[.pointer (some ⟨b1, 0, none⟩)]) ∧ Own w [(b1, .cells [.map m])] w') := by
  refine calls_ax (vs := [(.map m)]) Tryz.func53 rfl rfl ?_
  refine ac_seq (ac_region ?_)
  refine al_new (fun b => .pointer (some ⟨b, 0, none⟩)) (r_box rfl rfl) rfl rfl rfl ?_
  intro b1
  refine al_p (q_assign rfl) (al_end (aq_then ?_))
  refine ac_seq (ac_region ?_)
  refine al_p (q_makeFunc _ _ .nil (.cons rfl .nil)) (al_p (q_assign rfl) (al_end (aq_then ?_)))
  refine ac_ret (ret1 Tryz.results53 rfl (fun w9 hs => ?_))
  exact ⟨b1, rfl, hs.defer 0⟩
set_option maxRecDepth 100000 in
theorem lying9_of (hSO : SortedOK) (F : Option Addr) (n cf : Nat) (zs : List SpanD) (cur : Int) (w : World) (hF : IsT 2 SpanD.cells w F n zs) (hn : n ≤ 1000) : Calls Tryz.prog 23 #[(.slice F n cf), (.int .i64 cur)] w (fun e w' => ∃ A m c, e = .returned (.slice A m c) ∧ NewT 1 intCells w.heap.size w' A m c ((lyN zs cur).map fun (k : Nat) => (k : Int)) ∧ Below w.heap.size w w') := by
  refine calls_axM (vs := [(.slice F n cf), (.int .i64 cur)]) Tryz.func23 rfl rfl ?_
  refine ac_seq (ac_region ?_)
  refine al_p (q_assign rfl) (al_end (aq_then ?_))
  refine ac_seq (ac_region ?_)
  refine al_makeMap rfl rfl ?_
  intro b1
  refine al_new (fun b => .pointer (some ⟨b, 0, none⟩)) (r_alloc Tryz.zeroValue117 rfl) rfl rfl rfl ?_
  intro b2
  refine al_store1 (i := 0) rfl rfl rfl rfl Tryz.sizeOf117 .k0 .k0 rfl (al_end (aq_then ?_))
  refine ac_seq (ac_seq (ac_region ?_))
  refine al_p (q_move rfl) (al_p (q_lenS rfl Tryz.runUnderlying81) (al_p (q_move rfl) (al_end (aq_then ?_))))
  refine ac_block ?_
  refine ac_loop (β := Nat) (fun x => x ≤ n) (fun x => [(0, (.slice F n cf)), (1, (.int .i64 cur)), (4, (.slice none 0 0)), (5, (.pointer (some ⟨b2, 0, none⟩))), (10, (.int .i64 (n : Int))), (11, (.int .i64 (x : Int)))]) (fun _ => _) (fun x => [(b2, _), (b1, .map (entK (List.range x)) x)]) (fun x => n - x) 0 (by omega) ⟨rfl, rfl, rfl, rfl, rfl, rfl, trivial⟩ (fun w9 hs => hs) (fun x hF1 => ?_)
  refine ac_seq (ac_region ?_)
  refine al_p (q_lss rfl rfl) (al_end (aq_then ?_))
  refine ac_seq ?_
  refine ac_cond rfl (fun h1 => ?_) (fun h1 => ?_)
  · have hxl : x < n := by have := of_decide_eq_true h1; omega
    refine ac_skip (aq_then (ac_seq (ac_block (ac_seq (ac_region ?_)))))
    refine al_p (q_move rfl) (al_p (q_assign rfl) (al_end (aq_then ?_)))
    refine ac_region (al_p (q_load (i := 0) rfl rfl rfl Tryz.isAgg117) (al_p (q_move rfl) ?_))
    refine al_mapUpdate (i := 1) (es := (entK (List.range x))) (k := x) rfl rfl rfl rfl Tryz.underlying117 Tryz.underlying3 rfl rfl (find_no _ 0 (by simp)) .k1 rfl ?_
    refine al_end (aq_inN (aq_then (ac_region ?_)))
    refine al_p (q_add rfl rfl (by omega)) (al_p (q_move rfl) (al_end (aq_then ?_)))
    skip
    refine aq_round (x + 1) (by omega) (by omega) ⟨rfl, rfl, rfl, rfl, rfl, rfl, trivial⟩ (fun w9 hs => (by rw [entR_succ]; exact hs))
  · have hxe : x = n := by have := of_decide_eq_false h1; omega
    refine ac_exit (aq_thenE (aq_thenE (aq_hit (aq_then ?_))))
    refine ac_seq (ac_seq (ac_region ?_))
    refine al_p (q_move rfl) (al_p (q_move rfl) (al_callS Tryz.call36 (.cons rfl (.cons rfl .nil)) rfl rfl (fun w1 hs1 => ?_)))
    refine (cagr_own F n cf cur _).mono ?_
    rintro e u1 ⟨ba, bb, rfl, hb_1⟩
    refine ⟨_, _, _, rfl, hs1.gift hb_1, ?_⟩
    refine al_end (aq_then ?_)
    refine ac_block ?_
    refine ac_range1 (b := b1) (N := (agL zs cur).length) (Gd := fun k x => (agL zs cur)[k]? = some x) (enc := (fun x : Int => .int .i64 x)) 3 (fun k => .map (entK (remK zs cur k)) n) (fun k x => [(5, (.pointer (some ⟨b2, 0, none⟩))), (7, (.int .i64 x)), (20, (.int .i64 x))]) (fun k => [(bb, _), (ba, _), (b2, .cells [(.map (some b1))]), (b1, .map (entK (remK zs cur k)) n)]) rfl Tryz.call67 rfl (by rw [remK_zero, hF.1, ← hxe]; rfl) (fun _ => rfl) ?_ ?_ ?_ ?_
    · intro v hs
      have hbl : w.heap.size ≤ b1 := (hs.box 3 _ _ rfl).1.resolve_right (by simp)
      have na : ba ≠ b1 := fun e => by have := hs.apart 1 3 b1 _ _ (by rw [← e]; rfl) rfl; omega
      have nb : bb ≠ b1 := fun e => by have := hs.apart 0 3 b1 _ _ (by rw [← e]; rfl) rfl; omega
      exact agreeing2_any ba bb n cf F zs cur [b1] v hn (hF.below hs.below) (((hs.at 1 rfl).cell _ rfl 0 _ rfl).1) (((hs.at 0 rfl).cell _ rfl 0 _ rfl).1) (hs.at 1 rfl).lt (hs.at 0 rfl).lt (by simpa using na) (by simpa using nb) (fun b o e h0 => by have := foreign_lt hF e h0; simp; omega)
    · intro k x lf W Q9 hk9 hg9 hQ9 k9
      have hW9 : Wide (Fence.wide.inRound lf) := Or.inr ⟨lf, rfl⟩
      refine ci_region hW9 hQ9 rfl ?_
      refine al_p (q_assign rfl) (al_end ?_)
      exact aq_sub k9 ⟨rfl, rfl, rfl, trivial⟩ (fun w9 hs => hs)
    · intro k x lf W Q9 hk9 hg9 hQ9 hS9 k9
      have hW9 : Wide (Fence.wide.inRound lf) := Or.inr ⟨lf, rfl⟩
      have hy9 : W.cell? ⟨b2, 0, none⟩ = some (.map (some b1)) := ((hS9.at 2 rfl).cell _ rfl 0 _ rfl).1
      have lb9 := (hS9.at 2 rfl).lt
      have hne9 : b2 ≠ b1 := fun e => by have := hS9.apart 2 3 b1 _ _ (by rw [← e]; rfl) rfl; omega
      obtain ⟨y9, j9, rfl, hf9, hj9, he9⟩ := remK_del hg9
      refine ci_block ?_
      refine ci_region hW9 hQ9 rfl ?_
      refine al_p (q_loadX rfl Tryz.isAgg117 (fun w9 hs => (hs.cellL lb9 (fun hm => hne9 (List.mem_singleton.1 hm))).trans ((one9 hy9) 0 _ rfl))) (al_p (q_move rfl) (al_delete0 (i := 0) (es := (entK (remK zs cur k))) (k := n) (j := j9) rfl rfl rfl Tryz.underlying117 Tryz.underlying3 rfl rfl hf9 hj9 rfl .k0 rfl ?_))
      refine al_end (aq_inN ?_)
      exact aq_sub k9 trivial (fun w9 hs => by rw [← he9]; exact hs)
    · intro lo9 D9 u9 a19 a29 a39 a49
      refine aq_inN (aq_then (ac_seq (ac_region ?_)))
      refine al_p (q_load (i := 2) rfl rfl rfl Tryz.isAgg117) (al_callS Tryz.call53 (.cons rfl .nil) rfl rfl (fun w2 hs2 => ?_))
      refine (keys_own _ _).mono ?_
      rintro e u2 ⟨bk, rfl, hb_2⟩
      refine ⟨_, _, _, rfl, hs2.gift hb_2, ?_⟩
      refine al_call Tryz.call52 (.cons rfl .nil) rfl rfl (fun w3 hs3 => ?_)
      have hz9 := hs3.below.size
      refine (hSO bk b1 (remK zs cur (agL zs cur).length) n _ (((hs3.at 0 rfl).cell _ rfl 0 _ rfl).1) (hs3.at 0 rfl).lt ((hs3.at 4 rfl).map _ _ rfl) (hs3.at 4 rfl).lt (List.pairwise_lt_range.filter _) (by have := List.length_filter_le (fun j => !(((agN zs cur).take (agL zs cur).length).contains j)) (List.range zs.length); rw [List.length_range] at this; have := hF.1; unfold remK; omega) (fun k hk => by unfold remK at hk; have := List.mem_range.1 (List.mem_filter.1 hk).1; have := hF.1; omega) hn).mono ?_
      rintro e u3 ⟨A_s, n_s, c_s, rfl, N_s, hb_3⟩
      refine ⟨_, rfl, hb_3, ?_⟩
      clear hs3
      refine al_p (q_assign rfl) (al_end (aq_then ?_))
      refine ac_ret (retMD Tryz.results23 (.tmp rfl .nil) .one (Nat.le_trans a19 a29) (fun w9 hs => ((hs.snap _ _ (.tail _ (.head _))).2.2.2.1 D9 a29 a39).trans a49) (fun w9 w8 hs hm9 hc9 => ?_))
      have hI9 := hs.newT (.head _) N_s
      rw [remK_all zs cur _ (by rw [agL_map, List.length_map]; exact Nat.le_refl _)] at hI9
      exact ⟨A_s, n_s, c_s, rfl, ⟨hI9.mv (fun _ => by simp [intCells]) hm9 (fun b o _ => by simp), fun b o e => Nat.le_trans hz9 (N_s.new _ _ e), N_s.le⟩, below_mark hs.below hc9 (Nat.le_trans a19 a29)⟩
end
end Go.Proofs.YthggkidiidnaoaaGreatDoor
