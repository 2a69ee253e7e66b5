import Derived.Test.YtapldonpflgnfaaDoorMAN
import Derived.Test.YtapldonpflgnfaaDoorMAS
import Derived.Test.YtapldonpflgnfaaDoorMAU
import Derived.Test.YtapldonpflgnfaaDoorMAV
import Derived.Test.YtapldonpflgnfaaDoorMAW
import Derived.Test.YtapldonpflgnfaaDoorMAX
import Derived.Test.YtapldonpflgnfaaDoorMAY
import Derived.Test.YtapldonpflgnfaaDoorRows
import Derived.KernelRfl
import Derived.Laws.StructEq
namespace Go.Proofs.YtapldonpflgnfaaDoor
set_option linter.unusedVariables false
set_option linter.unusedSimpArgs false
section
set_option autoImplicit false
open Go.RowKit
def Wide (F : Fence) : Prop := F = Fence.wide ∨ ∃ l, F = Fence.wide.inRound l
theorem Wide.fn {F : Fence} (h : Wide F) (f : FuncId) : F.fn f := by rcases h with rfl | ⟨l, rfl⟩ <;> trivial
theorem Wide.depth {F : Fence} (h : Wide F) : F.depth = none := by rcases h with rfl | ⟨l, rfl⟩ <;> rfl
theorem Wide.calls {F : Fence} (h : Wide F) {n : Nat} {P : Program} {f : FuncId} {args : Array Value} {w : World} {R : Ending → World → Prop} (k : Calls P f args w R) : CallsIn F n P f args w R := by
  rcases h with rfl | ⟨l, rfl⟩
  · exact callsIn_wide.2 k
  · exact CallsIn.inRound l (callsIn_wide.2 k)
theorem Wide.rows {F : Fence} (h : Wide F) {n : Nat} {P : Program} {row : String} {args : Array Value} {w : World} {R : Value → World → Prop} (k : Rows P row args w R) : _root_.Go.RowsIn F n P row args w R := by
  have key : _root_.Go.RowsIn Fence.wide n P row args w R := fun c cs _ => by
    obtain ⟨v, w', r, s⟩ := k c cs
    exact ⟨v, w', r, stepsIn_wide.2 s⟩
  rcases h with rfl | ⟨l, rfl⟩
  · exact key
  · exact key
theorem Wide.round {F : Fence} (h : Wide F) {n m : Nat} {P : Program} {l : Nat} {f : FuncId} {tmps : Array Value} {assign body : Code} {w : World} {R : Ending → World → Prop} (k : RoundIn Fence.wide n P l f tmps assign body w R) : RoundIn F m P l f tmps assign body w R := by
  have key : RoundIn Fence.wide m P l f tmps assign body w R := roundIn_n k
  rcases h with rfl | ⟨l, rfl⟩
  · exact key
  · exact key
section
variable {F : Fence} {P : Program} {e0 : Cfg} {U : Snaps} {l : Slots} {L : Boxes} {ops : Array Oper} {Q : Exit → Act → World → Prop} {rest : List Oper} {d : Nat} {v : Value}
variable {ty : TypeId} {pos : String} {af : Array Edge} {g : Option (Nat × Bool)} {dd : Option Nat} {o : Oper}
end
theorem Sta.cellL {E : Cfg} {U : Snaps} {L : Boxes} {w : World} (h : Sta E U L w) {b k : Nat} (hb : b < E.w.heap.size) (hn : b ∉ E.lent) : w.cell? ⟨b, k, none⟩ = E.w.cell? ⟨b, k, none⟩ := World.cell?_of_block (w := E.w) (w' := w) (a := ⟨b, k, none⟩) (h.chg.block b hb hn)
theorem Fr.marked {n : Nat} {w0 : World} {bs : List Nat} {l : Slots} {a : Act} (h : Fr ⟨n, [], w0, bs⟩ l a) (x : Deferred) : Fr ⟨n, [x], w0, bs⟩ l { a with defers := x :: a.defers } := ⟨h.size, by rw [h.defers], h.slot⟩
def postM (P : Program) (fn : Func) (R : Ending → World → Prop) : Exit → Act → World → Prop
  | .normal, a, w | .ret, a, w => LeavesInM Fence.wide 0 P fn a.tmps R a.defers .returning w
  | _, _, _ => False
theorem postM.up {P : Program} {fn : Func} {R : Ending → World → Prop} : ∀ e a w, postM P fn R e a w → bodyPostM Fence.wide 0 P fn R e a w
  | .normal, _, _, h => h
  | .ret, _, _, h => h
  | .exit _, _, _, h => h.elim
  | .goto _, _, _, h => h.elim
  | .panic _, _, _, h => h.elim
  | .outgrown, _, _, h => h.elim
end
section
set_option autoImplicit false
open Go.RowKit
section
variable {P : Program} {e0 : Cfg} {U : Snaps} {l : Slots} {L : Boxes} {ops : Array Oper} {Q : Exit → Act → World → Prop} {rest : List Oper} {d : Nat} {v : Value}
variable {ty : TypeId} {pos : String} {af : Array Edge} {g : Option (Nat × Bool)} {dd : Option Nat}
theorem q_convI {s t : TypeId} {k1 k2 k3 : IntKind} {x : Int} {ox : Operand} (hx : E l ox = some (.int k1 x)) (hs : P.underlying s = some (.int k3)) (ht : P.underlying t = some (.int k2)) (hw : k2.wrap x = x) : Q1 P e0 U l L ⟨dd, .convert s t ox, ty, pos, af, g⟩ (.int k2 x) := by
  intro a w hf hs'
  simp [execOp, hf.ev hx, convert, run_underlying hs, run_underlying ht, Conv.intToInt, hw]
end
section
variable {P : Program} {U : Snaps} {l : Slots} {L : Boxes}
end
end
section
open Go.RowKit
def OutT {α : Type} (z : Nat) (enc : α → List Value) (w : World) (E : Int) (zs : List α) (e : Ending) (w' : World) : Prop := ∃ A n c, e = .returned (.tuple #[.slice A n c, .int .i64 E]) ∧ NewT z enc w.heap.size w' A n c zs ∧ Below w.heap.size w w'
theorem OutT.nil {α : Type} {z : Nat} {enc : α → List Value} {w w' : World} {E : Int} (hb : Below w.heap.size w w') : OutT z enc w E ([] : List α) (.returned (.tuple #[.slice none 0 0, .int .i64 E])) w' :=
  ⟨none, 0, 0, rfl, ⟨IsT.nil _ _ _ _, fun b o e => (by cases e), Nat.le_refl _, by omega⟩, hb⟩
theorem OutT.ok {α : Type} {z n c : Nat} {enc : α → List Value} {w w' : World} {A : Option Addr} {zs : List α} {E : Int} (h : NewT z enc w.heap.size w' A n c zs) (hb : Below w.heap.size w w') : OutT z enc w E zs (.returned (.tuple #[.slice A n c, .int .i64 E])) w' := ⟨A, n, c, rfl, h, hb⟩
end
section
open Go.RowKit
def zR2 : List Value := [.int .i64 0, .int .i64 0]
theorem tmod_bd {m d : Int} (hm : 0 ≤ m) (hd : 0 < d) : 0 ≤ m.tmod d ∧ m.tmod d < d := by
  rw [Int.tmod_eq_emod_of_nonneg hm]
  exact ⟨Int.emod_nonneg _ (by omega), Int.emod_lt_of_pos _ hd⟩
abbrev rmix (M : MachD) (C : CurD) (zs : List FaultD) (sd tn n j : Nat) : List Value := mixF n j (fun k => SpanD.cells (rdF M C zs sd tn k)) (fun _ => zR2)
def rdL (M : MachD) (C : CurD) (zs : List FaultD) (sd tn : Nat) : List SpanD := (List.range M.sensors.length).map (rdF M C zs sd tn)
theorem rdL_len (M : MachD) (C : CurD) (zs : List FaultD) (sd tn : Nat) : (rdL M C zs sd tn).length = M.sensors.length := by simp [rdL]
theorem rdL_flat (M : MachD) (C : CurD) (zs : List FaultD) (sd tn : Nat) : (rdL M C zs sd tn).flatMap SpanD.cells = (List.range M.sensors.length).flatMap (fun k => SpanD.cells (rdF M C zs sd tn k)) := by
  unfold rdL; rw [List.flatMap_map]
theorem srb_bl_apiSpan_0_1 (a0 a1 : Value) (ha0 : a0.oneCell' = true) (ha1 : a1.oneCell' = true) : ∀ w, (Instr.build 49 #[(0, a0), (1, a1)]).run Tryd.prog w = .ok (.agg #[a0, a1]) w := by
  have ea0 : a0.cells = #[a0] := cells_one ha0
  have ea1 : a1.cells = #[a1] := cells_one ha1
  intro w; simp [Instr.build, Instr.fill, cells_agg, Tryd.runUnderlying49, Tryd.zeroValue49, Tryd.sizeOf3, ea0, ea1]
set_option maxRecDepth 100000 in
theorem cread_ok (R : MachR) (M : MachD) (Q : CurR) (C : CurD) (F P : Option Addr) (nf cf np cp sd : Nat) (zs : List FaultD) (tn : Nat) (w : World) (hM : IsM w R M) (hC : IsC w Q C) (hF : IsT 4 FaultD.cells w F nf zs) (hn : nf ≤ 1000000000000000) (hK : Kinds w) (hv : Fit2 M C) (hfb : faultsB M zs = true) (htn : tn ≤ 1000000000) (hsd : sd < 4294967296) : Calls Tryd.prog 6 #[(.agg (machCells R M)), Q.v, (.agg #[.int .u32 ((sd : Nat) : Int), .slice F nf cf, .slice P np cp]), (.int .i64 (tn : Int))] w (OutT 2 SpanD.cells w 0 (rdL M C zs sd tn)) := by
  have hvc := fit2_iff.2 hv
  have hs0 := sound_of hv.check
  have hsn := hs0.sensors.1
  have hld := hM.sensors.1
  obtain ⟨hfl, hfs⟩ := faults_iff hfb
  have hnf := hF.1
  refine calls_ax (vs := [(.agg (machCells R M)), Q.v, (.agg #[.int .u32 ((sd : Nat) : Int), .slice F nf cf, .slice P np cp]), (.int .i64 (tn : Int))]) Tryd.func6 rfl rfl ?_
  refine ac_seq (ac_region ?_)
  refine al_new (fun b => .pointer (some ⟨b, 0, none⟩)) (r_box rfl rfl) rfl rfl rfl ?_
  intro b1
  refine al_new (fun b => .pointer (some ⟨b, 0, none⟩)) (r_box rfl rfl) rfl rfl rfl ?_
  intro b2
  refine al_new (fun b => .pointer (some ⟨b, 0, none⟩)) (r_box rfl rfl) rfl rfl rfl ?_
  intro b3
  refine al_p (q_assign rfl) (al_p (q_assign rfl) (al_end (aq_then ?_)))
  refine ac_seq (ac_seq (ac_region ?_))
  refine al_p (q_loadAll (i := 2) rfl rfl Tryd.isAgg29 Tryd.sizeOf29 rfl) (al_p (q_loadAll (i := 1) rfl rfl Tryd.isAgg32 Tryd.sizeOf32 rfl) (al_call Tryd.call10 (.cons rfl (.cons rfl .nil)) rfl rfl (fun w1 hs1 => ?_)))
  refine (validCurrents_any R M Q C _ (hM.below hs1.below) (hC.below hs1.below)).mono ?_
  rintro e u1 ⟨rfl, hb_1⟩
  refine ⟨_, rfl, hb_1, ?_⟩
  clear hs1
  refine al_p (q_not rfl) (al_p (q_move rfl) ?_)
  refine aq_split 19 rfl (fun hb1 => ?_) (fun hb1 => ?_)
  · exfalso; have h9 := hb1; rw [hvc] at h9; cases h9
  · skip
    refine al_p (q_loadAll (i := 2) rfl rfl Tryd.isAgg29 Tryd.sizeOf29 rfl) ?_
    refine al_p (q_fieldAddr 1 rfl Tryd.runUnderlying37 rfl Tryd.sizeOf34 (by decide) rfl) (al_p (q_load (i := 0) rfl rfl rfl Tryd.isAgg34) (al_call Tryd.call11 (.cons rfl (.cons rfl .nil)) rfl rfl (fun w2 hs2 => ?_)))
    refine (validFaults_any R M F nf cf zs _ (hM.below hs2.below) (hF.below hs2.below) hn (hK.below hs2.below)).mono ?_
    rintro e u2 ⟨rfl, hb_2⟩
    refine ⟨_, rfl, hb_2, ?_⟩
    clear hs2
    refine al_p (q_not rfl) (al_p (q_pickF rfl rfl) (al_end (aq_then ?_)))
    refine ac_cond rfl (fun h1 => ?_) (fun h1 => ?_)
    · exfalso; have h9 := h1; rw [hfb] at h9; cases h9
    · skip
      refine ac_skip (aq_then (ac_seq (ac_seq (ac_region ?_))))
      refine al_p (q_move rfl) (al_call Tryd.call12 (.cons rfl (.cons rfl (.cons rfl .nil))) rfl rfl (fun w3 hs3 => ?_))
      refine (seWithin_any (tn : Int) 0 1000000000 _).mono ?_
      rintro e u3 ⟨rfl, rfl⟩
      refine ⟨_, rfl, (Below.refl _ _), ?_⟩
      clear hs3
      refine al_p (q_not rfl) (al_end (aq_then ?_))
      refine ac_cond rfl (fun h2 => ?_) (fun h2 => ?_)
      · exfalso; have h9 := h2; rw [wthn_iff.2 ⟨by omega, by omega⟩] at h9; cases h9
      · skip
        refine ac_skip (aq_then (ac_seq (ac_region ?_)))
        refine al_p (q_fieldAddr 9 rfl Tryd.runUnderlying29 rfl Tryd.sizeOf27 (by decide) rfl) (al_p (q_load (i := 2) rfl rfl rfl Tryd.isAgg27) (al_p (q_lenS rfl Tryd.runUnderlying27) ?_))
        refine al_makeAgg (n := R.ld) (bytes := 16) (zv := (.agg #[.int .i64 0, .int .i64 0])) [(.int .i64 0), (.int .i64 0)] rfl rfl rfl Tryd.underlying42 (by kernel_rfl) rfl rfl rfl (by omega) (by decide) rfl rfl ?_
        intro b4
        refine al_p (q_assign rfl) (al_end (aq_then ?_))
        refine ac_seq (ac_seq (ac_region ?_))
        refine al_p (q_fieldAddr 9 rfl Tryd.runUnderlying29 rfl Tryd.sizeOf27 (by decide) rfl) (al_p (q_load (i := 3) rfl rfl rfl Tryd.isAgg27) (al_p (q_lenS rfl Tryd.runUnderlying27) (al_p (q_move rfl) (al_end (aq_then ?_)))))
        refine ac_block ?_
        refine ac_loop (β := Nat) (fun j => j ≤ R.ld) (fun j => [(3, (.int .i64 (tn : Int))), (4, (.pointer (some ⟨b1, 0, none⟩))), (5, (.pointer (some ⟨b2, 0, none⟩))), (6, (.pointer (some ⟨b3, 0, none⟩))), (8, (.slice none 0 0)), (9, (.int .i64 0)), (10, (.slice (some ⟨b4, 0, none⟩) (R.ld) (R.ld))), (34, (.slice (R.D) R.ld R.cd)), (35, (.int .i64 (R.ld : Int))), (36, (.int .i64 (j : Int)))]) (fun _ => _) (fun j => [(b4, .cells (rmix M C zs sd tn R.ld j)), (b3, _), (b2, _), (b1, _)]) (fun j => R.ld - j) 0 (by omega) ⟨rfl, rfl, rfl, rfl, rfl, rfl, rfl, rfl, rfl, rfl, trivial⟩ (fun w9 hs => (by rw [show rmix M C zs sd tn R.ld 0 = (List.range R.ld).flatMap (fun _ => zR2) from mixF_zero _ _ _]; exact hs)) (fun j hF1 => ?_)
        refine ac_seq (ac_region ?_)
        refine al_p (q_lss rfl rfl) (al_end (aq_then ?_))
        refine ac_seq ?_
        refine ac_cond rfl (fun h3 => ?_) (fun h3 => ?_)
        · have hjl : j < R.ld := by have := of_decide_eq_true h3; omega
          obtain ⟨b11, o11, hA1, hlt1, hget1⟩ := hM.sensors.2 (by omega)
          have hx1 := getD_get (l := M.sensors) (d := ⟨⟨#[]⟩, 0, 0, 0, 0⟩) (k := j) (by omega)
          have hse := (hs0.sensors.2 _ (List.mem_of_getElem? hx1)).2.2
          have hex := exactL_bd M C (j : Int)
          have hfg := faultGo_bd (j : Int) tn zs (exactL M C j).1 1000000000000000 (by omega) hex.1 hex.2
          have hmx := mixN_lt sd tn j
          have hmt := tmod_bd (m := (mixN sd tn j : Int)) (d := 2 * (M.sensors.getD j ⟨⟨#[]⟩, 0, 0, 0, 0⟩).error + 1) (by omega) (by omega)
          refine ac_skip (aq_then (ac_seq (ac_block (ac_seq (ac_region ?_)))))
          refine al_p (q_move rfl) ?_
          refine al_p (q_indexAddrA (i := j) (o11 + j * 5 + 0) hA1 rfl rfl rfl (by omega) Tryd.runUnderlying27 Tryd.sizeOf57 rfl) (al_p (q_loadXs (SensorD.cells (M.sensors.getD j ⟨⟨#[]⟩, 0, 0, 0, 0⟩)) rfl Tryd.isAgg57 Tryd.sizeOf57 (fun w9 hs j9 v9 h9 => by rw [addr_add]; exact (hs.below.cell (p := ⟨_, _, none⟩) hlt1).trans ((hget1 j _ hx1) j9 v9 h9)) rfl) (al_new (fun b => .pointer (some ⟨b, 0, none⟩)) (r_alloc Tryd.zeroValue57 rfl) rfl rfl rfl ?_))
          intro b5
          refine al_p (q_assign rfl) (al_storeAll (i := 0) rfl rfl rfl rfl Tryd.sizeOf57 rfl rfl .k0 rfl (al_end (aq_then ?_)))
          refine ac_seq (ac_region ?_)
          refine al_p (q_loadAll (i := 4) rfl rfl Tryd.isAgg29 Tryd.sizeOf29 rfl) (al_p (q_loadAll (i := 3) rfl rfl Tryd.isAgg32 Tryd.sizeOf32 rfl) (al_p (q_move rfl) (al_call Tryd.call13 (.cons rfl (.cons rfl (.cons rfl .nil))) rfl rfl (fun w4 hs4 => ?_))))
          refine (exact9_any R M Q C (j : Int) _ (hM.below hs4.below) (hC.below hs4.below) (by omega) (by omega)).mono ?_
          rintro e u4 ⟨rfl, hb_4⟩
          refine ⟨_, rfl, hb_4, ?_⟩
          clear hs4
          refine al_p (q_move rfl) (al_p (q_extract rfl rfl) (al_p (q_extract rfl rfl) (al_p (q_assign rfl) (al_p (q_assign rfl) ?_))))
          refine al_end (aq_then ?_)
          refine ac_seq (ac_region ?_)
          refine al_p (q_move rfl) ?_
          refine al_p (q_fieldAddr 1 rfl Tryd.runUnderlying37 rfl Tryd.sizeOf34 (by decide) rfl) (al_p (q_load (i := 2) rfl rfl rfl Tryd.isAgg34) (al_p (q_move rfl) (al_p (q_move rfl) (al_call Tryd.call14 (.cons rfl (.cons rfl (.cons rfl (.cons rfl .nil)))) rfl rfl (fun w5 hs5 => ?_)))))
          refine (faulty_any (exactL M C (j : Int)).1 (j : Int) (tn : Int) F nf cf zs _ (hF.below hs5.below) (by omega) (by omega) (by omega) hfs).mono ?_
          rintro e u5 ⟨rfl, hb_5⟩
          refine ⟨_, rfl, hb_5, ?_⟩
          clear hs5
          refine al_p (q_assign rfl) (al_end (aq_then ?_))
          refine ac_seq (ac_draw 18 (by kernel_rfl) (by kernel_rfl) ?_)
          refine ah_t 0 (fun w9 hs => hs) rfl rfl (by kernel_rfl) (q_move rfl) ?_
          refine ah_t 1 (fun w9 hs => hs) rfl rfl (by kernel_rfl) (q_fieldAddr 0 rfl Tryd.runUnderlying37 rfl Tryd.sizeOf33 (by decide) rfl) (ah_t 2 (fun w9 hs => hs) rfl rfl (by kernel_rfl) (q_load (i := 2) rfl rfl rfl Tryd.isAgg33) (ah_t 3 (fun w9 hs => hs) rfl rfl (by kernel_rfl) (q_move rfl) ?_))
          refine ah_t 4 (fun w9 hs => hs) rfl rfl (by kernel_rfl) (q_convI rfl Tryd.underlying3 Tryd.underlying33 (by go_arith)) (ah_t 5 (fun w9 hs => hs) rfl rfl (by kernel_rfl) (q_move rfl) ?_)
          refine ah_t 6 (fun w9 hs => hs) rfl rfl (by kernel_rfl) (q_convI rfl Tryd.underlying3 Tryd.underlying33 (by go_arith)) ?_
          refine ah_t 9 (fun w9 hs => hs) rfl rfl (by kernel_rfl) (q_fieldAddr 4 rfl Tryd.runUnderlying57 rfl Tryd.sizeOf3 (by decide) rfl) (ah_t 10 (fun w9 hs => hs) rfl rfl (by kernel_rfl) (q_load (i := 0) rfl rfl rfl Tryd.isAgg3) ?_)
          refine ah_t 11 (fun w9 hs => hs) rfl rfl (by kernel_rfl) (q_mul rfl rfl (by omega)) ?_
          refine ah_t 12 (fun w9 hs => hs) rfl rfl (by kernel_rfl) (q_add rfl rfl (by omega)) ?_
          refine ah_t 14 (fun w9 hs => hs) rfl rfl (by kernel_rfl) (q_fieldAddr 4 rfl Tryd.runUnderlying57 rfl Tryd.sizeOf3 (by decide) rfl) (ah_t 15 (fun w9 hs => hs) rfl rfl (by kernel_rfl) (q_load (i := 0) rfl rfl rfl Tryd.isAgg3) (ah_one 7 rfl (by kernel_rfl) (fun hok1 hcl1 => ?_)))
          refine al_call Tryd.call15 (.cons rfl (.cons rfl (.cons rfl .nil))) rfl rfl (fun w6 hs6 => ?_)
          refine (mix_any sd tn j _ hsd (by omega) (by omega)).mono ?_
          rintro e u6 ⟨rfl, rfl⟩
          refine ⟨_, rfl, (Below.refl _ _), ?_⟩
          clear hs6
          refine al_end (ah_back hok1 hcl1 (fun w9 hs => (hs.fewer 1 rfl)) ?_)
          refine ah_t 8 (fun w9 hs => (hs.fewer 1 rfl)) rfl rfl (by kernel_rfl) (q_convI rfl Tryd.underlying33 Tryd.underlying3 (by go_arith)) ?_
          refine ah_t 13 (fun w9 hs => (hs.fewer 1 rfl)) rfl rfl (by kernel_rfl) (q_rem rfl rfl (by omega)) ?_
          refine ah_t 16 (fun w9 hs => (hs.fewer 1 rfl)) rfl rfl (by kernel_rfl) (q_sub rfl rfl (by omega)) ?_
          refine ah_t 17 (fun w9 hs => (hs.fewer 1 rfl)) rfl rfl (by kernel_rfl) (q_add rfl rfl (by omega)) (ah_one 18 rfl (by kernel_rfl) (fun hok2 hcl2 => ?_))
          refine al_p (q_assign rfl) (al_end (ah_last (by kernel_rfl) ?_))
          refine aq_then (ac_region (al_p (q_move rfl) (al_p (q_move rfl) (al_p (q_move rfl) ?_))))
          refine al_p (q_fieldAddr 4 rfl Tryd.runUnderlying57 rfl Tryd.sizeOf3 (by decide) rfl) (al_p (q_load (i := 0) rfl rfl rfl Tryd.isAgg3) ?_)
          refine al_p (q_sub rfl rfl (by omega)) (al_p (q_move rfl) ?_)
          refine al_p (q_fieldAddr 4 rfl Tryd.runUnderlying57 rfl Tryd.sizeOf3 (by decide) rfl) (al_p (q_load (i := 0) rfl rfl rfl Tryd.isAgg3) ?_)
          refine al_p (q_add rfl rfl (by omega)) (al_p (q_build (.cons rfl (.cons rfl .nil)) (srb_bl_apiSpan_0_1 _ _ rfl rfl)) ?_)
          refine al_p (q_indexAddr (i := j) (0 + j * 2) rfl rfl rfl (by omega) Tryd.runUnderlying42 Tryd.sizeOf49 rfl) ?_
          refine al_storeV (i := 1) (cs' := (rmix M C zs sd tn R.ld (j + 1))) (vs := (SpanD.cells (rdF M C zs sd tn j))) rfl rfl rfl Tryd.sizeOf49 rfl (by rw [mixF_len (z := 2) (fun _ => rfl) (fun _ => rfl)]; omega) rfl (by have h := mixF_store (n := R.ld) (k := j) (z := 2) (F := (fun k => SpanD.cells (rdF M C zs sd tn k))) (G := fun _ => zR2) (fun _ => rfl) (fun _ => rfl) hjl; rw [Nat.zero_add]; exact h) .k1 rfl ?_
          refine al_end (aq_inN (aq_then (aq_keepL [3, 4, 5, 6, 8, 9, 10, 11, 12, 13, 34, 35, 36, 37, 38, 39, 40, 41, 42, 43, 44, 45, 46, 47, 48, 49, 50, 51, 52, 53, 54, 55, 56, 57, 58, 59, 60, 61, 62, 63, 64, 65, 66, 67, 68, 69, 70, 71, 72, 73, 74, 75, 76, 77, 78, 79, 80, 81, 82, 83] (.cons rfl (.cons rfl (.cons rfl (.cons rfl (.cons rfl (.cons rfl (.cons rfl (.cons rfl (.cons rfl (.cons rfl (.cons rfl (.cons rfl (.cons rfl (.cons rfl (.cons rfl (.cons rfl (.cons rfl (.cons rfl (.cons rfl (.cons rfl (.cons rfl (.cons rfl (.cons rfl (.cons rfl (.cons rfl (.cons rfl (.cons rfl (.cons rfl (.cons rfl (.cons rfl (.cons rfl (.cons rfl (.cons rfl (.cons rfl (.cons rfl (.cons rfl (.cons rfl (.cons rfl (.cons rfl (.cons rfl (.cons rfl (.cons rfl (.cons rfl (.cons rfl (.cons rfl (.cons rfl (.cons rfl (.cons rfl (.cons rfl (.cons rfl (.cons rfl (.cons rfl (.cons rfl (.cons rfl (.cons rfl (.cons rfl (.cons rfl (.cons rfl (.cons rfl (.cons rfl .nil)))))))))))))))))))))))))))))))))))))))))))))))))))))))))))) ?_)))
          refine ac_region ?_
          refine al_p (q_add rfl rfl (by omega)) (al_p (q_move rfl) (al_end (aq_then ?_)))
          skip
          refine aq_round (j + 1) (by omega) (by omega) ⟨rfl, rfl, rfl, rfl, rfl, rfl, rfl, rfl, rfl, rfl, trivial⟩ (fun w9 hs => ((hs.fewer 3 rfl).tail 1 rfl))
        · have hje : j = R.ld := by have := of_decide_eq_false h3; omega
          refine ac_exit (aq_thenE (aq_thenE (aq_hit (aq_then ?_))))
          refine ac_seq (ac_region ?_)
          refine al_p (q_move rfl) (al_p (q_assign rfl) (al_p (q_assign rfl) (al_end (aq_then ?_))))
          refine ac_ret (ret2 Tryd.results6 rfl rfl (fun w9 hs => ?_))
          exact OutT.ok (A := some ⟨b4, 0, none⟩) (n := R.ld) (c := R.ld) ⟨isT_box0 (n := 2) (enc := SpanD.cells) (fun _ => rfl) (hs.at 0 rfl) (by rw [hje, rmix, mixF_all, rdL_flat, hld]) (by rw [rdL_len, hld]), hs.new 0 rfl, by omega, by omega⟩ hs.below
set_option maxRecDepth 100000 in
theorem cread_bad (R : MachR) (M : MachD) (Q : CurR) (C : CurD) (F P : Option Addr) (nf cf np cp sd : Nat) (zs : List FaultD) (t : Int) (w : World) (hM : IsM w R M) (hC : IsC w Q C) (hF : IsT 4 FaultD.cells w F nf zs) (hn : nf ≤ 1000000000000000) (hK : Kinds w) (hb : validC M C = false ∨ faultsB M zs = false) : Calls Tryd.prog 6 #[(.agg (machCells R M)), Q.v, (.agg #[.int .u32 ((sd : Nat) : Int), .slice F nf cf, .slice P np cp]), (.int .i64 t)] w (OutT 2 SpanD.cells w 1 []) := by
  refine calls_ax (vs := [(.agg (machCells R M)), Q.v, (.agg #[.int .u32 ((sd : Nat) : Int), .slice F nf cf, .slice P np cp]), (.int .i64 t)]) Tryd.func6 rfl rfl ?_
  refine ac_seq (ac_region ?_)
  refine al_new (fun b => .pointer (some ⟨b, 0, none⟩)) (r_box rfl rfl) rfl rfl rfl ?_
  intro b1
  refine al_new (fun b => .pointer (some ⟨b, 0, none⟩)) (r_box rfl rfl) rfl rfl rfl ?_
  intro b2
  refine al_new (fun b => .pointer (some ⟨b, 0, none⟩)) (r_box rfl rfl) rfl rfl rfl ?_
  intro b3
  refine al_p (q_assign rfl) (al_p (q_assign rfl) (al_end (aq_then ?_)))
  refine ac_seq (ac_seq (ac_region ?_))
  refine al_p (q_loadAll (i := 2) rfl rfl Tryd.isAgg29 Tryd.sizeOf29 rfl) (al_p (q_loadAll (i := 1) rfl rfl Tryd.isAgg32 Tryd.sizeOf32 rfl) (al_call Tryd.call10 (.cons rfl (.cons rfl .nil)) rfl rfl (fun w1 hs1 => ?_)))
  refine (validCurrents_any R M Q C _ (hM.below hs1.below) (hC.below hs1.below)).mono ?_
  rintro e u1 ⟨rfl, hb_1⟩
  refine ⟨_, rfl, hb_1, ?_⟩
  clear hs1
  refine al_p (q_not rfl) (al_p (q_move rfl) ?_)
  refine aq_split 19 rfl (fun hb1 => ?_) (fun hb1 => ?_)
  · skip
    refine al_skip rfl rfl rfl (al_skip rfl rfl rfl (al_skip rfl rfl rfl (al_skip rfl rfl rfl (al_skip rfl rfl rfl ?_))))
    refine al_p (q_pickT rfl rfl) (al_end (aq_then ?_))
    refine ac_condT rfl (ac_seq (ac_region ?_))
    refine al_p (q_assign rfl) (al_p (q_assign rfl) (al_end (aq_then ?_)))
    refine ac_ret (aq_thenR (ret2 Tryd.results6 rfl rfl (fun w9 hs => ?_)))
    exact OutT.nil hs.below
  · have q1 : validC M C = true := by simpa using hb1
    have q2 : faultsB M zs = false := hb.resolve_left (by rw [q1]; decide)
    refine al_p (q_loadAll (i := 2) rfl rfl Tryd.isAgg29 Tryd.sizeOf29 rfl) ?_
    refine al_p (q_fieldAddr 1 rfl Tryd.runUnderlying37 rfl Tryd.sizeOf34 (by decide) rfl) (al_p (q_load (i := 0) rfl rfl rfl Tryd.isAgg34) (al_call Tryd.call11 (.cons rfl (.cons rfl .nil)) rfl rfl (fun w2 hs2 => ?_)))
    refine (validFaults_any R M F nf cf zs _ (hM.below hs2.below) (hF.below hs2.below) hn (hK.below hs2.below)).mono ?_
    rintro e u2 ⟨rfl, hb_2⟩
    refine ⟨_, rfl, hb_2, ?_⟩
    clear hs2
    refine al_p (q_not rfl) (al_p (q_pickF rfl rfl) (al_end (aq_then ?_)))
    refine ac_cond rfl (fun h1 => ?_) (fun h1 => ?_)
    · skip
      refine ac_seq (ac_region ?_)
      refine al_p (q_assign rfl) (al_p (q_assign rfl) (al_end (aq_then ?_)))
      refine ac_ret (aq_thenR (ret2 Tryd.results6 rfl rfl (fun w9 hs => ?_)))
      exact OutT.nil hs.below
    · exfalso; have h9 := h1; rw [q2] at h9; cases h9
set_option maxRecDepth 100000 in
theorem cread_far (R : MachR) (M : MachD) (Q : CurR) (C : CurD) (F P : Option Addr) (nf cf np cp sd : Nat) (zs : List FaultD) (t : Int) (w : World) (hM : IsM w R M) (hC : IsC w Q C) (hF : IsT 4 FaultD.cells w F nf zs) (hn : nf ≤ 1000000000000000) (hK : Kinds w) (hvc : validC M C = true) (hfb : faultsB M zs = true) (ht : wthn t 0 1000000000 = false) : Calls Tryd.prog 6 #[(.agg (machCells R M)), Q.v, (.agg #[.int .u32 ((sd : Nat) : Int), .slice F nf cf, .slice P np cp]), (.int .i64 t)] w (OutT 2 SpanD.cells w 7 []) := by
  refine calls_ax (vs := [(.agg (machCells R M)), Q.v, (.agg #[.int .u32 ((sd : Nat) : Int), .slice F nf cf, .slice P np cp]), (.int .i64 t)]) Tryd.func6 rfl rfl ?_
  refine ac_seq (ac_region ?_)
  refine al_new (fun b => .pointer (some ⟨b, 0, none⟩)) (r_box rfl rfl) rfl rfl rfl ?_
  intro b1
  refine al_new (fun b => .pointer (some ⟨b, 0, none⟩)) (r_box rfl rfl) rfl rfl rfl ?_
  intro b2
  refine al_new (fun b => .pointer (some ⟨b, 0, none⟩)) (r_box rfl rfl) rfl rfl rfl ?_
  intro b3
  refine al_p (q_assign rfl) (al_p (q_assign rfl) (al_end (aq_then ?_)))
  refine ac_seq (ac_seq (ac_region ?_))
  refine al_p (q_loadAll (i := 2) rfl rfl Tryd.isAgg29 Tryd.sizeOf29 rfl) (al_p (q_loadAll (i := 1) rfl rfl Tryd.isAgg32 Tryd.sizeOf32 rfl) (al_call Tryd.call10 (.cons rfl (.cons rfl .nil)) rfl rfl (fun w1 hs1 => ?_)))
  refine (validCurrents_any R M Q C _ (hM.below hs1.below) (hC.below hs1.below)).mono ?_
  rintro e u1 ⟨rfl, hb_1⟩
  refine ⟨_, rfl, hb_1, ?_⟩
  clear hs1
  refine al_p (q_not rfl) (al_p (q_move rfl) ?_)
  refine aq_split 19 rfl (fun hb1 => ?_) (fun hb1 => ?_)
  · exfalso; have h9 := hb1; rw [hvc] at h9; cases h9
  · skip
    refine al_p (q_loadAll (i := 2) rfl rfl Tryd.isAgg29 Tryd.sizeOf29 rfl) ?_
    refine al_p (q_fieldAddr 1 rfl Tryd.runUnderlying37 rfl Tryd.sizeOf34 (by decide) rfl) (al_p (q_load (i := 0) rfl rfl rfl Tryd.isAgg34) (al_call Tryd.call11 (.cons rfl (.cons rfl .nil)) rfl rfl (fun w2 hs2 => ?_)))
    refine (validFaults_any R M F nf cf zs _ (hM.below hs2.below) (hF.below hs2.below) hn (hK.below hs2.below)).mono ?_
    rintro e u2 ⟨rfl, hb_2⟩
    refine ⟨_, rfl, hb_2, ?_⟩
    clear hs2
    refine al_p (q_not rfl) (al_p (q_pickF rfl rfl) (al_end (aq_then ?_)))
    refine ac_cond rfl (fun h1 => ?_) (fun h1 => ?_)
    · exfalso; have h9 := h1; rw [hfb] at h9; cases h9
    · skip
      refine ac_skip (aq_then (ac_seq (ac_seq (ac_region ?_))))
      refine al_p (q_move rfl) (al_call Tryd.call12 (.cons rfl (.cons rfl (.cons rfl .nil))) rfl rfl (fun w3 hs3 => ?_))
      refine (seWithin_any t 0 1000000000 _).mono ?_
      rintro e u3 ⟨rfl, rfl⟩
      refine ⟨_, rfl, (Below.refl _ _), ?_⟩
      clear hs3
      refine al_p (q_not rfl) (al_end (aq_then ?_))
      refine ac_cond rfl (fun h2 => ?_) (fun h2 => ?_)
      · skip
        refine ac_seq (ac_region ?_)
        refine al_p (q_assign rfl) (al_p (q_assign rfl) (al_end (aq_then ?_)))
        refine ac_ret (aq_thenR (ret2 Tryd.results6 rfl rfl (fun w9 hs => ?_)))
        exact OutT.nil hs.below
      · exfalso; have h9 := h2; rw [ht] at h9; cases h9
end
section
open Go.RowKit
end
section
open Go.RowKit Go.Shelf
structure RowL (b : Nat) (vs : List Value) (W : World) : Prop where
  lt : b < W.heap.size
  cell : ∀ (j : Nat) (v : Value), vs[j]? = some v → W.cell? ⟨b, j, none⟩ = some v
  mark : ∀ j, j < vs.length → W.frozen? ⟨b, j, none⟩ = false
theorem RowL.below {b : Nat} {vs : List Value} {W W' : World} (h : RowL b vs W) (hb : Below W.heap.size W W') : RowL b vs W' :=
  ⟨Nat.lt_of_lt_of_le h.lt hb.size, fun j v hv => (hb.cell (p := ⟨b, j, none⟩) h.lt).trans (h.cell j v hv), fun j hj => (hb.frozen (p := ⟨b, j, none⟩) h.lt).trans (h.mark j hj)⟩
theorem RowL.new (W : World) (cs : Array Value) (t : TypeId) : RowL W.heap.size cs.toList (W.alloc (.cells cs t)) := by
  refine ⟨by simp, fun j v hv => ?_, fun j hj => ?_⟩
  · rw [Array.getElem?_toList] at hv
    unfold World.cell?
    rw [heap_alloc_new]
    simpa using hv
  · unfold World.frozen?
    rw [heap_alloc_new]
    simp
theorem RowL.drew {b : Nat} {vs : List Value} {W : World} (h : RowL b vs W) : RowL b vs W.drew := h.below ((Below.refl _ _).drew)
theorem RowL.alloc {b : Nat} {vs : List Value} {W : World} (h : RowL b vs W) (o : Obj) : RowL b vs (W.alloc o) := h.below ((Below.refl _ _).alloc (Nat.le_refl _) o)
theorem RowL.far {b : Nat} {vs : List Value} {W : World} (h : RowL b vs W) {p : Addr} (hp : b ≠ p.block) (v : Value) : RowL b vs (W.setCell p v) :=
  ⟨by rw [World.size_setCell]; exact h.lt, fun j u hu => by
      rw [World.cell?_setCell_other _ _ _ _ (fun e => hp (by exact (congrArg Addr.block e).symm))]; exact h.cell j u hu, fun j hj => by rw [World.frozen?_setCell]; exact h.mark j hj⟩
theorem RowL.put {b : Nat} {vs : List Value} {W : World} (h : RowL b vs W) (k : Nat) (v : Value) (hk : k < vs.length) : RowL b (vs.set k v) (W.setCell ⟨b, k, none⟩ v) :=
  ⟨by rw [World.size_setCell]; exact h.lt, fun j u hu => by
      by_cases e : j = k
      · subst e
        rw [List.getElem?_set_self hk] at hu
        obtain rfl := Option.some.inj hu
        exact World.cell?_setCell_same' _ _ _ (by rw [h.cell j _ (List.getElem?_eq_getElem hk)]; rfl)
      · rw [World.cell?_setCell_other _ _ _ _ (fun h2 => by
          have := congrArg Addr.off h2
          dsimp only at this
          omega)]
        exact h.cell j u (by rwa [List.getElem?_set_ne (Ne.symm e)] at hu), fun j hj => by rw [World.frozen?_setCell]; exact h.mark j (by simpa using hj)⟩
theorem RowL.isI {b : Nat} {zs : List Int} {W : World} (h : RowL b (zs.map (Value.int .i64)) W) {n : Nat} (hn : zs.length = n) : IsT 1 intCells W (some ⟨b, 0, none⟩) n zs := by
  refine ⟨hn, fun _ => ⟨b, 0, rfl, h.lt, fun j x hx i v hv => ?_⟩⟩
  have hi : i = 0 := by
    have := (List.getElem?_eq_some_iff.1 hv).1
    simp [intCells] at this; omega
  subst hi
  have hv' : v = .int .i64 x := by simpa [intCells] using hv.symm
  subst hv'
  rw [show (0 + j * 1 + 0 : Nat) = j by omega]
  exact h.cell j _ (by rw [List.getElem?_map, hx]; rfl)
theorem ZeroL.row {b n : Nat} {W : World} (h : ZeroL b n W) : RowL b (List.replicate n (.int .i64 0)) W :=
  ⟨h.lt, fun j v hv => by
    have hj := (List.getElem?_eq_some_iff.1 hv).1
    rw [List.length_replicate] at hj
    rw [List.getElem?_replicate, if_pos hj] at hv
    obtain rfl := Option.some.inj hv
    exact h.cell j hj, fun j hj => h.mark j (by simpa using hj)⟩
theorem fill_set (T : List Value) (n j : Nat) (z v : Value) (hl : T.length = n) (hv : T[j]? = some v) : (T.take j ++ List.replicate (n - j) z).set j v = T.take (j + 1) ++ List.replicate (n - (j + 1)) z := by
  obtain ⟨hj, rfl⟩ := List.getElem?_eq_some_iff.1 hv
  have h1 : (T.take j).length = j := by rw [List.length_take]; omega
  rw [List.set_append_right _ _ (by omega), h1, Nat.sub_self, show n - j = (n - (j + 1)) + 1 by omega, List.replicate_succ, List.set_cons_zero, List.take_succ_eq_append_getElem hj, List.append_assoc]; rfl
end
section
open Go.RowKit Go.Shelf
end
section
open Go.RowKit Go.Shelf
structure QuietAt (B : Nat) (w' : World) (pa la pb lb pc nc : Nat) : Prop where
  coils : ZeroL pa la w'
  shells : ZeroL pb lb w'
  cells : ZeroL pc nc w'
  base : B ≤ pa ∧ B ≤ pb ∧ B ≤ pc
  apart : pa ≠ pc ∧ pb ≠ pc ∧ pa ≠ pb
def Quiet (la lb nc : Nat) (w : World) (e : Ending) (w' : World) : Prop :=
  ∃ (pa pb pc : Nat), e = .returned (.agg #[.slice (some ⟨pa, 0, none⟩) la la, .slice (some ⟨pb, 0, none⟩) lb lb, .slice (some ⟨pc, 0, none⟩) nc nc]) ∧ QuietAt w.heap.size w' pa la pb lb pc nc ∧ Below w.heap.size w w'
end
section
open Go.RowKit Go.Shelf
end
end Go.Proofs.YtapldonpflgnfaaDoor
