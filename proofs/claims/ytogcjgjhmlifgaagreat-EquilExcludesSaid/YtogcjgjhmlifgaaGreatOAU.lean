import Derived.Test.YtogcjgjhmlifgaaGreatOAM
import Derived.Test.YtogcjgjhmlifgaaGreatOAS
import Derived.Test.YtogcjgjhmlifgaaGreatOAT
import Derived.Test.YtogcjgjhmlifgaaGreatRows
import Derived.KernelRfl
import Derived.Laws.StructEq
import Derived.OrdersIn
namespace Go.Proofs.YtogcjgjhmlifgaaGreat
set_option linter.unusedVariables false
set_option linter.unusedSimpArgs false
section
set_option autoImplicit false
open Go.RowKit
section
variable {P : Program} {e0 : Cfg} {U : Snaps} {l : Slots} {L : Boxes} {ops : Array Oper} {Q : Exit → Act → World → Prop} {rest : List Oper} {d : Nat} {v : Value}
variable {ty : TypeId} {pos : String} {af : Array Edge} {g : Option (Nat × Bool)} {dd : Option Nat}
theorem q_convI {s t : TypeId} {k1 k2 k3 : IntKind} {x : Int} {ox : Operand} (hx : E l ox = some (.int k1 x)) (hs : P.underlying s = some (.int k3)) (ht : P.underlying t = some (.int k2)) (hw : k2.wrap x = x) : Q1 P e0 U l L ⟨dd, .convert s t ox, ty, pos, af, g⟩ (.int k2 x) := by
  intro a w hf hs'
  simp [execOp, hf.ev hx, convert, run_underlying hs, run_underlying ht, Conv.intToInt, hw]
end
theorem Sta.callC {E : Cfg} {U : Snaps} {L L' : Boxes} {w w' : World} {i b : Nat} {cs cs' : Cont} (h : Sta E U L w) (hi : L[i]? = some (b, cs)) (hc : Chg [b] w w') (hbox : BoxAt w' b cs') (hL : SetAt i (b, cs') L L') : Sta E ((w.heap.size, w') :: U) L' w' := by
  have h' := h.change hi hc hbox
  rw [← hL.eq] at h'
  refine ⟨h'.chg, h'.box, h'.apart, fun lo u hu => ?_⟩
  cases hu with
  | head =>
    refine ⟨h.chg.size, hc.size, Nat.le_refl _, fun k _ hk => rfl, h'.chg.block, fun j c ds hj => Or.inl ?_⟩
    rw [hL.eq] at hj
    rcases getElem?_set_some hi hj with ⟨_, e⟩ | ⟨_, e⟩
    · cases e; exact (h.box i b cs hi).2.lt
    · exact (h.box j c ds e).2.lt
  | tail _ hu => exact h'.snap lo u hu
theorem Chg.mv {X Z : List Nat} {v V W : World} {n0 : Nat} (h : Chg X v V) (hm : Mv n0 Z V W) (hn : v.heap.size ≤ n0) (hz : ∀ z ∈ Z, v.heap.size ≤ z) : Chg X v W :=
  ⟨hm.os.trans h.os, hm.tape.trans h.tape, hm.output.trans h.output, Nat.le_trans h.size hm.size, fun b hb hx => (hm.block b (Nat.lt_of_lt_of_le hb h.size) (fun hz' => by have := hz b hz'; omega) (Or.inl (by omega))).trans (h.block b hb hx)⟩
section
variable {P : Program} {U : Snaps} {l : Slots} {L : Boxes}
theorem retM {n : Nat} {w0 : World} {bs : List Nat} {fn : Func} {R : Ending → World → Prop} {rs : List ResultVar} {vs : List Value} {v : Value} (hr : fn.results = rs.toArray) (h : RT P l L rs vs) (hv : Fin1 vs v) (k : ∀ w, Sta ⟨n, [], w0, bs⟩ U L w → R (.returned v) w) : AQ ⟨n, [], w0, bs⟩ U l L (postM P fn R .ret) := fun a w hf hs => by
  show LeavesInM _ _ _ _ _ _ a.defers _ _
  rw [hf.defers]
  refine ⟨v, ?_, k w hs⟩
  rw [← hv.eq]
  exact results_eq fn a.tmps rs hr vs w (h.run hf hs)
theorem Sta.putD {E : Cfg} {U : Snaps} {L : Boxes} {w : World} {D : Nat} {o o' : Obj} (h : Sta E U L w) (ho : w.heap[D]? = some o) (hc : o.isCells = false) (hm : ∀ es k, o ≠ .map es k) (hD : E.w.heap.size ≤ D) : Sta E [] L (w.putObj D o') := by
  have hch : Chg [D] w (w.putObj D o') := Chg.putObj ho
  refine ⟨⟨hch.os.trans h.chg.os, hch.tape.trans h.chg.tape, hch.output.trans h.chg.output, Nat.le_trans h.chg.size hch.size, fun k hk hn => ?_⟩, fun i b cs hi => ?_, h.apart, fun lo u hu => by cases hu⟩
  · exact (hch.block k (Nat.lt_of_lt_of_le hk h.chg.size) (fun e => by have := List.mem_singleton.1 e; omega)).trans (h.chg.block k hk hn)
  · obtain ⟨h1, h2⟩ := h.box i b cs hi
    refine ⟨h1, Nat.lt_of_lt_of_le h2.lt hch.size, fun ds hd k v hk => ?_, fun es k hd => ?_⟩
    · obtain ⟨g1, g2⟩ := h2.cell ds hd k v hk
      have hne : b ≠ D := fun e => by
        subst e
        obtain ⟨o2, ho2, hc2⟩ := cells_of_cell g1
        rw [ho] at ho2; cases ho2; rw [hc] at hc2; cases hc2
      have e := hch.block b h2.lt (fun e => hne (List.mem_singleton.1 e))
      exact ⟨(World.cell?_of_block (w := w) (w' := w.putObj D o') (a := ⟨b, k, none⟩) e).trans g1, (World.frozen?_of_block (w := w) (w' := w.putObj D o') (a := ⟨b, k, none⟩) e).trans g2⟩
    · have g := h2.map es k hd
      have hne : b ≠ D := fun e => by
        subst e
        rw [ho] at g; cases g; exact hm _ _ rfl
      exact (hch.block b h2.lt (fun e => hne (List.mem_singleton.1 e))).trans g
theorem retMD {n D : Nat} {w0 : World} {bs : List Nat} {fn : Func} {R : Ending → World → Prop} {rs : List ResultVar} {vs : List Value} {v : Value} (hr : fn.results = rs.toArray) (h : RT P l L rs vs) (hv : Fin1 vs v) (hDl : w0.heap.size ≤ D) (hD : ∀ w, Sta ⟨n, [{ target := .collected D, args := #[] }], w0, bs⟩ U L w → w.heap[D]? = some (.deferred (some [])))
    (hR : ∀ w w', Sta ⟨n, [{ target := .collected D, args := #[] }], w0, bs⟩ U L w → Mv D [] w w' → Chg [D] w w' → R (.returned v) w') : AQ ⟨n, [{ target := .collected D, args := #[] }], w0, bs⟩ U l L (postM P fn R .ret) := fun a w hf hs => by
  show LeavesInM _ _ _ _ _ _ a.defers _ _
  rw [hf.defers]
  refine ⟨by simp, .inl ⟨_, _, rfl, run_takeDeferred (hD w hs), ?_⟩⟩
  refine ⟨v, ?_, hR w _ hs (Mv.putObj (Nat.le_refl _) (hD w hs) rfl) (Chg.putObj (hD w hs))⟩
  rw [← hv.eq]
  exact results_eq fn a.tmps rs hr vs _ (h.run hf (hs.putD (hD w hs) rfl (fun _ _ e => by cases e) hDl))
end
end
section
set_option autoImplicit false
open Go.RowKit
theorem Marks.snap {E : Cfg} {U : Snaps} {L : Boxes} {w u : World} {lo : Nat} {Ds : List Nat} (h : Sta E U L w) (hu : (lo, u) ∈ U) (hM : Marks u u.heap.size Ds) (hlo : ∀ D ∈ Ds, lo ≤ D) : Marks w u.heap.size Ds := by
  obtain ⟨-, -, s2, s3, -, -⟩ := h.snap lo u hu
  have key : ∀ (m : Nat) (Ds : List Nat), Marks u m Ds → m ≤ u.heap.size → (∀ D ∈ Ds, lo ≤ D) → Marks w m Ds := by
    intro m Ds hM
    induction hM with
    | nil => intro _ _; exact .nil
    | cons hD h1 h2 ih =>
      intro hm hl
      exact .cons ((s3 _ (hl _ (by simp)) (by omega)).trans hD) h1 (ih (by omega) fun d hd => hl d (by simp [hd]))
  exact key _ _ hM (Nat.le_refl _) hlo
end
section
open Go.RowKit
abbrev mCs (R : MachR) (M : MachD) : List Value := [.string M.name, .slice R.A R.la R.ca, .slice R.B R.lb R.cb, .slice R.C R.lc R.cc, .int .i64 M.grid.r, .int .i64 M.grid.z, .int .i64 M.grid.nr, .int .i64 M.grid.nz, .int .i64 M.grid.step, .slice R.D R.ld R.cd]
def gridR (R : MachR) : MachR := ⟨none, none, R.C, none, 0, 0, 0, 0, 1, R.cc, 0, 0⟩
theorem IsM.grid {w : World} {R : MachR} {M : MachD} (h : IsM w R M) (hl : 1 ≤ R.lc) : IsM w (gridR R) (gridM M) :=
  ⟨IsT.nil _ _ _ _, IsT.nil _ _ _ _, h.limits.take (k := 1) hl, IsT.nil _ _ _ _, Nat.le_refl _, Nat.le_refl _, Nat.le_trans hl h.lc, Nat.le_refl _, by simp [gridR], by simp [gridR], h.cc, by simp [gridR], by simp [gridR], by simp [gridR], by simp [gridR], by simp [gridR]⟩
structure Kx (X : List Nat) (w W : World) : Prop where
  size : w.heap.size ≤ W.heap.size
  block : ∀ b, b < w.heap.size → b ∉ X → W.heap[b]? = w.heap[b]?
theorem Kx.of_chg {X : List Nat} {l : Nat} {w W V : World} (hw : Below w.heap.size w W) (hl : w.heap.size ≤ l) (hC : Chg (l :: X) W V) : Kx X w V :=
  ⟨Nat.le_trans hw.size hC.size, fun b hb hx => (hC.block b (Nat.lt_of_lt_of_le hb hw.size) (fun hm => by
    rcases List.mem_cons.1 hm with e | hm
    · omega
    · exact hx hm)).trans (hw.block b hb)⟩
theorem Chg.ownx {l : Nat} {X Y : List Nat} {A B C : World} (h : Chg (l :: X) A B) (k : Chg (l :: (X ++ Y)) B C) (hY : ∀ y ∈ Y, A.heap.size ≤ y) : Chg (l :: X) A C :=
  ⟨k.os.trans h.os, k.tape.trans h.tape, k.output.trans h.output, Nat.le_trans h.size k.size, fun b hb hx => (k.block b (Nat.lt_of_lt_of_le hb h.size) (fun hm => by
    rcases List.mem_cons.1 hm with e | hm
    · exact hx (e ▸ List.mem_cons_self)
    · rcases List.mem_append.1 hm with e | e
      · exact hx (List.mem_cons_of_mem _ e)
      · have := hY b e; omega)).trans (h.block b hb hx)⟩
structure PlF (R : MachR) (M : MachD) (bg bm : Nat) (W : World) : Prop where
  m : IsM W R M
  bm : ∀ (j : Nat) (v : Value), (mCs R M)[j]? = some v → W.cell? ⟨bm, 0 + j, none⟩ = some v
  bg : ∀ (j : Nat) (v : Value), (mCs (gridR R) (gridM M))[j]? = some v → W.cell? ⟨bg, 0 + j, none⟩ = some v
theorem pcells_any (R : MachR) (M : MachD) (w : World) (hM : IsM w R M) (hc : checkC M = 0) : Calls Tryz.prog 93 #[.agg (mCs R M).toArray] w (Ret (.int .i64 (cellN M : Int)) w) := by
  have h := mcells_any R M w hM
  have e : cellsN M = (cellN M : Int) := by unfold cellsN; rw [if_pos hc, (cellN_eq hc).1]
  rw [e] at h
  exact h
theorem pcell_any (R : MachR) (M : MachD) (k : Nat) (w : World) (hM : IsM w R M) (hc : checkC M = 0) (hk : k < cellN M) : Calls Tryz.prog 153 #[.agg (mCs R M).toArray, .int .i64 (k : Int)] w (Ret (.tuple #[.agg #[.int .i64 (cellP M k).r, .int .i64 (cellP M k).z], .int .i64 0]) w) := by
  have h := mcell9_any R M (k : Int) w hM
  have e : cellL M (k : Int) = ((cellP M k).r, (cellP M k).z, 0) := by
    unfold cellL
    rw [if_pos hc, if_pos]
    · rfl
    · rw [wthn_iff]; have := cellN_eq hc; omega
  rw [e] at h
  exact h
theorem ptA_cell {M : MachD} {k : Nat} (h : k < cellN M) : ptA M k = cellP M k := if_pos h
theorem ptA_lim (M : MachD) (j : Nat) : ptA M (cellN M + j) = limP M j := by unfold ptA; rw [if_neg (by omega), Nat.add_sub_cancel_left]
set_option maxRecDepth 100000 in
set_option maxHeartbeats 1000000 in
theorem places1_own (R : MachR) (M : MachD) (bg bm : Nat) (X : List Nat) (w : World) (hc : checkC M = 0) (hF : ∀ W, Kx X w W → PlF R M bg bm W) (lbg : bg < w.heap.size) (lbm : bm < w.heap.size) :
    IterOwn Tryz.prog 152 #[.pointer (some ⟨bg, 0, none⟩), .pointer (some ⟨bm, 0, none⟩)] PointD.v (fun _ _ k x _ => x = ptA M k) X 0 (ptN M) w := by
  intro l J W hw hl hl2 hJ hY h0
  have hF0 := hF W ⟨hw.size, fun b hb _ => hw.block b hb⟩
  have hw0 := hw.size
  have hbgW : bg < W.heap.size := by omega
  have hbmW : bm < W.heap.size := by omega
  have hJ0 : J [] [] 0 W := h0 [] rfl (fun z h => by cases h)
  have n3 := hF0.m.limits.1
  have hl1 : 1 ≤ R.lc := by have := limits_pos hc; omega
  have hl2' := limits_most hc
  have n4 := cellN_eq hc
  refine callsIn_axM (vs := [.func (.yield l) #[] #[], .pointer (some ⟨bg, 0, none⟩), .pointer (some ⟨bm, 0, none⟩)]) Tryz.func152 rfl rfl ?_
  refine ci_seq ?_
  refine ci_seq ?_
  refine ci_region (Or.inl rfl) (fun ⟨a, w, h⟩ => h) rfl ?_
  refine al_p (q_loadXs (mCs (gridR R) (gridM M)) rfl Tryz.isAgg29 Tryz.sizeOf29 (fun w9 hs j9 v9 h9 => by rw [addr_add]; exact (hs.below.cell (p := ⟨_, _, none⟩) hbgW).trans (hF0.bg j9 v9 h9)) rfl) (al_call Tryz.call93 (.cons rfl .nil) rfl rfl (fun w1 hs1 => ?_))
  refine (pcells_any (gridR R) (gridM M) _ ((hF0.m.grid hl1).below hs1.below) (gridM_check hc)).mono ?_
  rintro e u1 ⟨rfl, hb_1⟩
  refine ⟨_, rfl, hb_1, ?_⟩
  clear hs1
  refine al_p (q_move rfl) (al_end (aq_then ?_))
  refine ci_block ?_
  refine fun a9 V9 hf9 hs9 => wpIn_loop_x (fun (k : Nat) a V => k ≤ cellN M ∧ (∃ Y, (∀ y ∈ Y, W.heap.size ≤ y) ∧ J [] Y (k) V) ∧ Chg (l :: X) W V ∧ Fr ⟨37, [], V, []⟩ [(0, (.func (.yield l) #[] #[])), (1, (.pointer (some ⟨bg, 0, none⟩))), (2, (.pointer (some ⟨bm, 0, none⟩))), (10, (.int .i64 (cellN M : Int))), (11, (.int .i64 (k : Int)))] a) (fun k => cellN M - k) 0 ⟨Nat.zero_le _, ⟨[], (fun y hy => by cases hy), hJ _ _ _ _ _ hJ0 (Mv.of_chg (Chg.of_below _ hs9.below))⟩, Chg.of_below _ hs9.below, hf9.rebase.sub (AllLook.sub ⟨rfl, rfl, rfl, rfl, rfl, trivial⟩)⟩ (fun k a V ⟨hk, ⟨Y, hYl, hJk⟩, hC, hf⟩ => ?_)
  have hsV := hC.size
  have hFV := hF V (Kx.of_chg hw hl hC)
  have hsw := hw.size
  have hbg : bg < V.heap.size := by omega
  have hbm : bm < V.heap.size := by omega
  refine ci_go hf (Sta.start _ _ _) ?_
  refine ci_seq ?_
  refine ci_region (Or.inl rfl) (fun ⟨a, w, h⟩ => h) rfl ?_
  refine al_p (q_lss rfl rfl) (al_end (aq_then ?_))
  refine ci_seq ?_
  refine ci_cond rfl (fun h1 => ?_) (fun h1 => ?_)
  · have hkl : k < cellN M := by have := of_decide_eq_true h1; omega
    refine ci_skip ?_
    refine aq_then (ci_seq ?_)
    refine ci_block ?_
    refine ci_seq ?_
    refine ci_region (Or.inl rfl) (fun ⟨a, w, h⟩ => h) rfl ?_
    refine al_p (q_move rfl) (al_p (q_assign rfl) (al_end (aq_then ?_)))
    refine ci_seq ?_
    refine ci_region (Or.inl rfl) (fun ⟨a, w, h⟩ => h) rfl ?_
    refine al_p (q_loadXs (mCs (gridR R) (gridM M)) rfl Tryz.isAgg29 Tryz.sizeOf29 (fun w9 hs j9 v9 h9 => by rw [addr_add]; exact (hs.below.cell (p := ⟨_, _, none⟩) hbg).trans (hFV.bg j9 v9 h9)) rfl) (al_p (q_move rfl) (al_call Tryz.call153 (.cons rfl (.cons rfl .nil)) rfl rfl (fun w2 hs2 => ?_)))
    refine (pcell_any (gridR R) (gridM M) k _ ((hFV.m.grid hl1).below hs2.below) (gridM_check hc) hkl).mono ?_
    rintro e u2 ⟨rfl, hb_2⟩
    refine ⟨_, rfl, hb_2, ?_⟩
    clear hs2
    refine al_p (q_move rfl) (al_p (q_extract rfl rfl) (al_p (q_extract rfl rfl) (al_new (fun b => .pointer (some ⟨b, 0, none⟩)) (r_alloc Tryz.zeroValue36 rfl) rfl rfl rfl ?_)))
    intro b1
    refine al_storeAll (i := 0) rfl rfl rfl rfl Tryz.sizeOf36 rfl rfl .k0 rfl (al_p (q_assign rfl) (al_end (aq_then ?_)))
    refine ci_seq ?_
    refine ci_regionY ?_
    refine li_q (Or.inl rfl) rfl (q_move rfl) rfl rfl rfl ?_
    refine li_q (Or.inl rfl) rfl (q_loadAll (i := 0) rfl rfl Tryz.isAgg36 Tryz.sizeOf36 rfl) rfl rfl rfl ?_
    refine li_yield (Or.inl rfl) rfl (.cons rfl .nil) rfl rfl (fun w9 hs9 => ?_)
    have hJ9 := hJ _ _ _ _ _ hJk (Mv.of_chg (Chg.of_below _ hs9.below))
    refine (hY [] Y k (cellP M k) w9 (by unfold ptN; omega) hJ9 (ptA_cell hkl).symm).mono ?_
    rintro e u9 ⟨rfl, Y9, hy9, hyl9, hJu, hCu⟩
    have hC9 := (hC.trans (Chg.of_below (l :: X) hs9.below)).ownx hCu hYl
    have hz9 := hC.size
    have hz8 := hs9.below.size
    refine ⟨_, rfl, ?_⟩
    refine li_q (Or.inl rfl) rfl (q_not rfl) rfl rfl rfl ?_
    refine li_end ?_
    refine aq_then (ci_condF rfl ?_)
    refine ci_skip ?_
    refine aq_inN (aq_then (ci_region (Or.inl rfl) (fun ⟨a, w, h⟩ => h) rfl ?_))
    refine al_p (q_add rfl rfl (by omega)) (al_p (q_move rfl) (al_end (aq_then ?_)))
    exact fun a9 W2 hf9 hs9 => ⟨k + 1, by omega, by omega, ⟨Y9, fun y hy => (hy9 y hy).elim (fun h => hYl y h) (fun h => by omega), hJ _ _ _ _ _ (by exact hJu) (Mv.of_chg (Chg.of_below _ hs9.below))⟩, hC9.trans (Chg.of_below _ hs9.below), hf9.rebase.sub (AllLook.sub ⟨rfl, rfl, rfl, rfl, rfl, trivial⟩)⟩
  · have hke : k = cellN M := by have := of_decide_eq_false h1; omega
    refine ci_exit ?_
    refine aq_thenE (aq_thenE (aq_hit (aq_then (ci_seq ?_))))
    refine ci_region (Or.inl rfl) (fun ⟨a, w, h⟩ => h) rfl ?_
    refine al_p (q_fieldAddr (0 + 3) rfl Tryz.runUnderlying29 rfl Tryz.sizeOf24 (by decide) rfl) (al_p (q_loadX rfl Tryz.isAgg24 (fun w9 hs => (hs.below.cell (p := ⟨_, _, none⟩) hbm).trans (hFV.bm 3 _ rfl))) (al_p (q_lenS rfl Tryz.runUnderlying24) (al_p (q_move rfl) (al_end (aq_then ?_)))))
    refine ci_block ?_
    refine fun a9 V9 hf9 hs9 => wpIn_loop_x (fun (j : Nat) a V => j ≤ M.limits.length ∧ (∃ Y, (∀ y ∈ Y, W.heap.size ≤ y) ∧ J [] Y (cellN M + j) V) ∧ Chg (l :: X) W V ∧ Fr ⟨37, [], V, []⟩ [(0, (.func (.yield l) #[] #[])), (26, (.slice (R.C) R.lc R.cc)), (27, (.int .i64 (R.lc : Int))), (28, (.int .i64 (j : Int)))] a) (fun j => M.limits.length - j) 0 ⟨Nat.zero_le _, ⟨Y, hYl, hJ _ _ _ _ _ (by rw [hke] at hJk; exact hJk) (Mv.of_chg (Chg.of_below _ hs9.below))⟩, hC.trans (Chg.of_below _ hs9.below), hf9.rebase.sub (AllLook.sub ⟨rfl, rfl, rfl, rfl, trivial⟩)⟩ (fun j a V ⟨hj, ⟨Y, hYl, hJk⟩, hC, hf⟩ => ?_)
    have hsV := hC.size
    have hFV := hF V (Kx.of_chg hw hl hC)
    have hsw := hw.size
    have hbg : bg < V.heap.size := by omega
    have hbm : bm < V.heap.size := by omega
    refine ci_go hf (Sta.start _ _ _) ?_
    refine ci_seq ?_
    refine ci_region (Or.inl rfl) (fun ⟨a, w, h⟩ => h) rfl ?_
    refine al_p (q_lss rfl rfl) (al_end (aq_then ?_))
    refine ci_seq ?_
    refine ci_cond rfl (fun h2 => ?_) (fun h2 => ?_)
    · have hjl : j < M.limits.length := by have := of_decide_eq_true h2; omega
      obtain ⟨b11, o11, hA1, hlt1, hget1⟩ := hFV.m.limits.2 (by omega)
      have hx1 := limP_get hjl
      refine ci_skip ?_
      refine aq_then (ci_seq ?_)
      refine ci_block ?_
      refine ci_seq ?_
      refine ci_region (Or.inl rfl) (fun ⟨a, w, h⟩ => h) rfl ?_
      refine al_p (q_indexAddrA (i := j) (o11 + j * 2 + 0) hA1 rfl rfl rfl (by omega) Tryz.runUnderlying24 Tryz.sizeOf36 rfl) (al_p (q_loadXs _ rfl Tryz.isAgg36 Tryz.sizeOf36 (fun w9 hs j9 v9 h9 => by rw [addr_add]; exact (hs.below.cell (p := ⟨_, _, none⟩) hlt1).trans ((hget1 j _ hx1) j9 v9 h9)) rfl) (al_new (fun b => .pointer (some ⟨b, 0, none⟩)) (r_alloc Tryz.zeroValue36 rfl) rfl rfl rfl ?_))
      intro b2
      refine al_storeAll (i := 0) rfl rfl rfl rfl Tryz.sizeOf36 rfl rfl .k0 rfl (al_end (aq_then ?_))
      refine ci_seq ?_
      refine ci_regionY ?_
      refine li_q (Or.inl rfl) rfl (q_move rfl) rfl rfl rfl ?_
      refine li_q (Or.inl rfl) rfl (q_loadAll (i := 0) rfl rfl Tryz.isAgg36 Tryz.sizeOf36 rfl) rfl rfl rfl ?_
      refine li_yield (Or.inl rfl) rfl (.cons rfl .nil) rfl rfl (fun w9 hs9 => ?_)
      have hJ9 := hJ _ _ _ _ _ hJk (Mv.of_chg (Chg.of_below _ hs9.below))
      refine (hY [] Y (cellN M + j) (limP M j) w9 (by unfold ptN; omega) hJ9 (ptA_lim M j).symm).mono ?_
      rintro e u9 ⟨rfl, Y9, hy9, hyl9, hJu, hCu⟩
      have hC9 := (hC.trans (Chg.of_below (l :: X) hs9.below)).ownx hCu hYl
      have hz9 := hC.size
      have hz8 := hs9.below.size
      refine ⟨_, rfl, ?_⟩
      refine li_q (Or.inl rfl) rfl (q_not rfl) rfl rfl rfl ?_
      refine li_end ?_
      refine aq_then (ci_condF rfl ?_)
      refine ci_skip ?_
      refine aq_inN (aq_then (ci_region (Or.inl rfl) (fun ⟨a, w, h⟩ => h) rfl ?_))
      refine al_p (q_add rfl rfl (by omega)) (al_p (q_move rfl) (al_end (aq_then ?_)))
      exact fun a9 W2 hf9 hs9 => ⟨j + 1, by omega, by omega, ⟨Y9, fun y hy => (hy9 y hy).elim (fun h => hYl y h) (fun h => by omega), hJ _ _ _ _ _ (by exact hJu) (Mv.of_chg (Chg.of_below _ hs9.below))⟩, hC9.trans (Chg.of_below _ hs9.below), hf9.rebase.sub (AllLook.sub ⟨rfl, rfl, rfl, rfl, trivial⟩)⟩
    · have hje : j = M.limits.length := by have := of_decide_eq_false h2; omega
      refine ci_exit ?_
      refine aq_thenE (aq_thenE (aq_hit (retM Tryz.results152 .nil .zero (fun w9 hs9 => ?_))))
      exact ⟨⟨_, rfl⟩, [], Y, hJ _ _ _ _ _ (by rw [hje] at hJk; exact hJk) (Mv.of_chg (Chg.of_below _ hs9.below))⟩
end
section
open Go.RowKit
theorem eqc_bs_apiPoint_1_0_ (c0_0 c0_1 : Value) : ∀ w, (Instr.buildSlice 24 1 #[(0, .agg #[c0_0, c0_1])]).run Tryz.prog w = .ok (.slice (some ⟨w.heap.size, 0, none⟩) 1 1) (w.alloc (.cells [c0_0, c0_1].toArray 36)) := by
  intro w; (simp [Instr.buildSlice, Instr.fill, cells_agg, newRow, Tryz.runUnderlying24, Tryz.zeroValue36, Tryz.sizeOf36] <;> (rw [(by kernel_rfl : Array.range 2 = #[0, 1])]; simp [Value.cells]))
theorem BoxAt.blkx {w w' : World} {b : Nat} {c : Cont} (h : BoxAt w b c) (hb : w'.heap[b]? = w.heap[b]?) (hz : w.heap.size ≤ w'.heap.size) : BoxAt w' b c := h.same hb hz
theorem BoxAt.isCellsx {w : World} {b : Nat} {v : Value} {cs : List Value} (h : BoxAt w b (.cells (v :: cs))) : ∃ o : Obj, w.heap[b]? = some o ∧ o.isCells = true := cells_of_cell (h.cell _ rfl 0 _ rfl).1
theorem cell_blkx {w w' : World} {b k : Nat} (hb : w'.heap[b]? = w.heap[b]?) : w'.cell? ⟨b, k, none⟩ = w.cell? ⟨b, k, none⟩ := World.cell?_of_block (w := w) (w' := w') (a := ⟨b, k, none⟩) hb
theorem Sta.lendGx (n : Nat) (D : List Deferred) (w : World) (L : Boxes) (hb : ∀ p ∈ L, BoxAt w p.1 p.2) (ha : L.Pairwise (fun a b => a.1 ≠ b.1)) : Sta ⟨n, D, w, L.map Prod.fst⟩ [] L w :=
  ⟨Chg.refl _ _, fun i b cs hi => ⟨Or.inr (List.mem_map.2 ⟨(b, cs), List.mem_of_getElem? hi, rfl⟩), hb (b, cs) (List.mem_of_getElem? hi)⟩, apart_pair.2 ha, fun lo u h => by cases h⟩
theorem gt_isCellsx {o : Gr} {cs : List Value} {p : Nat × Cont} {w : World} (hp : p ∈ gt o cs) (h : BoxAt w p.1 p.2) (hc : cs ≠ []) : ∃ b : Obj, w.heap[p.1]? = some b ∧ b.isCells = true := by
  rcases o with _ | ⟨b, c, sp⟩
  · cases hp
  · obtain rfl := List.mem_singleton.1 hp
    obtain ⟨v, r, rfl⟩ := List.exists_cons_of_ne_nil hc
    exact BoxAt.isCellsx h
def ptC (pts : Nat → PointD) (k : Nat) : List Value := (lst k pts).flatMap PointD.cells
theorem ptC_succ (pts : Nat → PointD) (k : Nat) : ptC pts (k + 1) = ptC pts k ++ PointD.cells (pts k) := by unfold ptC; rw [lst_snoc, List.flatMap_append]; simp
theorem ptC_ne {pts : Nat → PointD} {k z : Nat} {o : Gr} (h : gok o k z (ptC pts k)) (h0 : k = 0 → o = none) {p : Nat × Cont} (hp : p ∈ gt o (ptC pts k)) : ptC pts k ≠ [] := by
  intro e
  cases k with
  | zero => rw [h0 rfl] at hp; cases hp
  | succ k => rw [ptC_succ] at e; simp [PointD.cells] at e
set_option maxRecDepth 100000 in
set_option maxHeartbeats 1000000 in
theorem appendSeqP_any (pts : Nat → PointD) (gf : Nat) (lb : Array Value) (N : Nat) (w : World) (hN : N ≤ 100000) (eg : ∀ args w, (callFunc gf args).run Tryz.prog w = .ok (.enter gf args) w)
    (hseq : ∀ (b : Nat) (v : World), Below w.heap.size w v → w.heap.size ≤ b → b < v.heap.size → IterOwn Tryz.prog gf lb PointD.v (fun _ _ k x _ => x = pts k) [b] 0 N v) :
    Calls Tryz.prog 157 #[.slice none 0 0, .func (.func gf) #[] lb] w (fun e w' => ∃ A c, e = .returned (.slice A N c) ∧ NewT 2 PointD.cells w.heap.size w' A N c (lst N pts) ∧ Below w.heap.size w w') := by
  refine calls_axM (vs := [.slice none 0 0, .func (.func gf) #[] lb]) Tryz.func157 rfl rfl ?_
  refine ac_seq (ac_region ?_)
  refine al_new (fun b => .pointer (some ⟨b, 0, none⟩)) (r_box rfl rfl) rfl rfl rfl ?_
  intro b2
  refine al_p (q_assign rfl) (al_end (aq_then ?_))
  refine ac_seq (ac_seq (ac_region ?_))
  refine al_p (q_move rfl) (al_end (aq_then ?_))
  refine ac_block (fun a9 v hf9 hs9 => (wpIn_wide (n := 0)).1 ?_)
  have hbw : Below w.heap.size w v := hs9.below
  have hbl := hs9.at 0 rfl
  have hl2 : w.heap.size ≤ b2 := (hs9.box 0 _ _ rfl).1.resolve_right (by simp)
  have lbl := hbl.lt
  refine wpIn_range_own (X := [b2]) (zl := 0) (N := N) (Good := fun _ _ k x _ => x = pts k) (enc := PointD.v) (hf9.ev rfl) eg (hseq b2 v hbw hl2 lbl)
    (fun Z Y k V => Z = [] ∧ Chg [b2] v V ∧ ∃ (o : Gr), BoxAt V b2 (.cells [.slice (gA o) k (gC o)]) ∧ (∀ p ∈ gt o (ptC pts k), BoxAt V p.1 p.2 ∧ v.heap.size ≤ p.1) ∧ (gt o (ptC pts k)).Pairwise (fun a b => a.1 ≠ b.1) ∧ gok o k 2 (ptC pts k) ∧ Y = (gt o (ptC pts k)).map Prod.fst ∧ (k = 0 → o = none)) ?_ ?_ ?_ ?_ ?_
  · rintro Z Y k W1 W2 ⟨rfl, q1, o, q2, q3, q4, q5, q6, q9⟩ hm
    refine ⟨rfl, q1.mv hm (Nat.le_refl _) (fun z hz => by cases hz), o, q2.blkx (hm.block _ q2.lt (by simp) (Or.inl lbl)) hm.size, fun p hp => ?_, q4, q5, q6, q9⟩
    obtain ⟨h1, h2⟩ := q3 p hp
    exact ⟨h1.blkx (hm.block _ h1.lt (by simp) (Or.inr (gt_isCellsx hp h1 (ptC_ne q5 q9 hp)))) hm.size, h2⟩
  · intro Z hZ hz
    exact ⟨List.length_eq_zero_iff.1 hZ, Chg.refl _ _, none, hbl, (fun p hp => by cases hp), List.Pairwise.nil, gok.none 2, rfl, fun _ => rfl⟩
  · rintro l2 Z Y k x V hl2 sV ⟨rfl, q1, o, q2, q3, q4, q5, rfl, q9⟩ hYv rfl hk
    have hW2 : Wide (Fence.wide.inRound l2) := Or.inr ⟨l2, rfl⟩
    refine ci_go (hf9.setp (w1 := V) (bs' := []) (p := 7) rfl (pts k).v) (Sta.start _ _ _) ?_
    refine ci_region hW2 (fun ⟨a, w, h⟩ => h) rfl ?_
    refine al_new (fun b => .pointer (some ⟨b, 0, none⟩)) (r_alloc Tryz.zeroValue36 rfl) rfl rfl rfl ?_
    intro b5
    refine al_storeAll (i := 0) rfl rfl rfl rfl Tryz.sizeOf36 rfl rfl .k0 rfl (al_end (fun a1 W1 hf1 hs1 => ⟨Chg.of_below _ hs1.below, fun W2 hm2 => ?_⟩))
    have hmm : Mv v.heap.size [] V W2 := (Mv.of_chg (Chg.of_below _ hs1.below)).trans hm2
    have s12 : V.heap.size ≤ W2.heap.size := hmm.size
    have e2 := hmm.block b2 q2.lt (by simp) (Or.inl lbl)
    have hB2w : BoxAt W2 b2 (.cells [.slice (gA o) k (gC o)]) := q2.blkx e2 hmm.size
    have hG2 : ∀ p ∈ gt o (ptC pts k), BoxAt W2 p.1 p.2 := fun p hp => by
      obtain ⟨h1, h2⟩ := q3 p hp
      exact h1.blkx (hmm.block _ h1.lt (by simp) (Or.inr (gt_isCellsx hp h1 (ptC_ne q5 q9 hp)))) hmm.size
    have hdxc : ∀ (j : Nat) (u : Value), (PointD.cells (pts k))[j]? = some u → W2.cell? ⟨b5, 0 + j, none⟩ = some u := fun j u hu => by
      have h6 := hs1.at 0 rfl
      rw [Nat.zero_add]
      exact (cell_blkx (hm2.block b5 h6.lt (by simp) (Or.inr h6.isCellsx))).trans ((h6.cell _ rfl j u hu).1)
    have lb5V : V.heap.size ≤ b5 := (hs1.box 0 _ _ rfl).1.resolve_right (by simp)
    have lb5 : b5 < W2.heap.size := Nat.lt_of_lt_of_le (hs1.at 0 rfl).lt hm2.size
    have hn5 : b5 ∉ ((b2, Cont.cells [.slice (gA o) k (gC o)]) :: (gt o (ptC pts k) ++ [])).map Prod.fst := by
      intro hm
      rw [List.append_nil] at hm
      rcases List.mem_cons.1 hm with h | h
      · have : b5 = b2 := h
        omega
      · obtain ⟨p, hp, e⟩ := List.mem_map.1 h
        have := (q3 p hp).1.lt
        omega
    refine ci_go (hf1.rebase (w1 := W2) (bs' := ((b2, Cont.cells [.slice (gA o) k (gC o)]) :: (gt o (ptC pts k) ++ [])).map Prod.fst)) (Sta.lendGx _ _ _ _ (fun p hp => ?_) ?_) ?_
    · rw [List.append_nil] at hp
      rcases List.mem_cons.1 hp with h | h
      · subst h; exact hB2w
      · exact hG2 p h
    · rw [List.append_nil]
      refine List.pairwise_cons.2 ⟨fun p hp => ?_, q4⟩
      have := (q3 p hp).2
      show b2 ≠ p.1
      omega
    refine ci_block ?_
    refine ci_region hW2 (fun ⟨a, w, h⟩ => by cases (And.left (a := Exit.outgrown = Exit.normal) h)) rfl ?_
    refine al_p (q_load (i := 0) rfl rfl rfl Tryz.isAgg24) (al_p (q_loadXs (PointD.cells (pts k)) rfl Tryz.isAgg36 Tryz.sizeOf36 (fun w9 hs j9 v9 h9 => by rw [addr_add]; exact (hs.cellL lb5 hn5).trans (hdxc j9 v9 h9)) rfl) (al_new (fun b => .slice (some ⟨b, 0, none⟩) 1 1) (r_buildSlice (.cons rfl .nil) (eqc_bs_apiPoint_1_0_ _ _)) rfl rfl rfl ?_))
    intro b6
    refine al_grow (z := 2) (bytes := 16) (zv := .agg #[.int .i64 0, .int .i64 0]) (o := o) (cs := ptC pts k) (vs := PointD.cells (pts k)) rfl rfl (.s (.s (.z))) q5 (Sor.box (j := 0) rfl rfl rfl) Tryz.underlying24 (by kernel_rfl) rfl (by omega) (by decide) rfl rfl (fun o1 g1 => ?_)
    refine ⟨_, (.s (.s (.z))), ?_⟩
    refine al_store1 (i := 1) rfl rfl rfl rfl Tryz.sizeOf24 .k0 .k1 rfl (al_end (aq_inN (fun a3 W3 hf3 hs3 => ?_)))
    rw [← ptC_succ] at g1 hs3
    have hbox : ∀ p ∈ gt o1 (ptC pts (k + 1)), BoxAt W3 p.1 p.2 ∧ p.1 ≠ b2 ∧ (p.1 ∈ (gt o (ptC pts k)).map Prod.fst ∨ W2.heap.size ≤ p.1) := fun p hp => by
      obtain ⟨i, hi⟩ := List.getElem?_of_mem hp
      have hi2 : ((b6, Cont.cells (PointD.cells (pts k))) :: (b2, Cont.cells [.slice (gA o1) (k + 1) (gC o1)]) :: (gt o1 (ptC pts (k + 1)) ++ []))[i + 2]? = some p := by
        rw [List.append_nil]; simpa using hi
      have hn : p.1 ≠ b2 := fun e => by have := hs3.apart (i + 2) 1 b2 _ _ (hi2.trans (by rw [← e])) rfl; omega
      refine ⟨hs3.at _ hi2, hn, ?_⟩
      rcases (hs3.box _ _ _ hi2).1 with h | h
      · exact Or.inr h
      · have h : p.1 ∈ ((b2, Cont.cells [.slice (gA o) k (gC o)]) :: (gt o (ptC pts k) ++ [])).map Prod.fst := h
        rw [List.append_nil] at h
        rcases List.mem_cons.1 h with h | h
        · exact absurd h hn
        · exact Or.inl h
    have hC23 : Chg (b2 :: ([] ++ (gt o (ptC pts k)).map Prod.fst)) W2 W3 := hs3.chg.mono (fun y hy => by simpa using hy)
    have s23 := hC23.size
    have hYb : ∀ y ∈ (gt o1 (ptC pts (k + 1))).map Prod.fst, y ∈ (gt o (ptC pts k)).map Prod.fst ∨ W2.heap.size ≤ y := fun y hy => by
      obtain ⟨p, hp, rfl⟩ := List.mem_map.1 hy
      exact (hbox p hp).2.2
    refine ⟨rfl, (gt o1 (ptC pts (k + 1))).map Prod.fst, (fun y hy => (hYb y hy).imp id (fun h => by omega)), (fun y hy => ?_), ⟨rfl, (q1.mv hmm (Nat.le_refl _) (fun z h => by cases h)).ownx hC23 (fun y hy => by obtain ⟨p, hp, rfl⟩ := List.mem_map.1 hy; exact (q3 p hp).2), o1, hs3.at 1 rfl, ?_, ?_, g1, rfl, (fun h => by omega)⟩, hs3.chg.mono (fun y hy => by simpa using hy)⟩
    · obtain ⟨p, hp, rfl⟩ := List.mem_map.1 hy
      exact (hbox p hp).1.lt
    · intro p hp
      obtain ⟨h1, h2, h3⟩ := hbox p hp
      refine ⟨h1, ?_⟩
      rcases h3 with h | h
      · obtain ⟨p', hp', e⟩ := List.mem_map.1 h
        have := (q3 p' hp').2
        omega
      · omega
    · exact ((apart_pair.1 hs3.apart).sublist (by rw [List.append_nil]; exact (List.sublist_cons_self _ _).trans (List.sublist_cons_self _ _)))
  · exact fun x hx => by rw [List.mem_singleton.1 hx]; exact lbl
  · rintro D Z Y Wd hD ⟨rfl, q1, o, q2, q3, q4, q5, q6, q9⟩ hDd
    have hD2 : D < Wd.heap.size := (Array.getElem?_eq_some_iff.1 hDd).1
    have hT : NewT 2 PointD.cells v.heap.size Wd (gA o) N (gC o) (lst N pts) := by
      refine ⟨?_, fun b off e => ?_, q5.le⟩
      · rcases o with _ | ⟨b, c, sp⟩
        · exact ⟨lst_length _ _, fun h0 => by have := q5.nil rfl; omega⟩
        · have h7 : BoxAt Wd b (.cells (ptC pts N ++ sp)) := (q3 (b, .cells (ptC pts N ++ sp)) (List.mem_singleton.2 rfl)).1
          exact isT_box (enc := PointD.cells) (zs := lst N pts) (fun _ => rfl) h7 rfl (lst_length _ _)
      · rcases o with _ | ⟨b', c, sp⟩
        · cases e
        · obtain rfl : b' = b := by cases e; rfl
          exact (q3 (b', .cells (ptC pts N ++ sp)) (List.mem_singleton.2 rfl)).2
    have hsw := hbw.size
    refine (?_ : AQ ⟨_, [_], w, []⟩ ((v.heap.size, Wd) :: _) _ _ _) _ _ (hf9.marked _) ((hs9.callC (i := 0) rfl q1 q2 .k0).defer _)
    refine aq_inN (aq_then (ac_seq (ac_region ?_)))
    refine al_p (q_load (i := 0) rfl rfl rfl Tryz.isAgg24) (al_p (q_assign rfl) (al_end (aq_then ?_)))
    refine ac_ret (retMD Tryz.results157 (.tmp rfl .nil) .one (Nat.le_trans hbw.size hD) (fun w9 hs => ((hs.snap _ _ (.head _)).2.2.2.1 D hD hD2).trans hDd) (fun w9 w8 hs hm hc8 => ?_))
    have hb9 := hs.below
    have hsz : Wd.heap.size ≤ w9.heap.size := (hs.snap _ _ (.head _)).2.2.1
    have hsz8 := hm.size
    exact ⟨gA o, gC o, rfl, ⟨IsT.mv (Z := []) (fun _ => by simp [PointD.cells]) (hs.isT (.head _) hT.isT (fun b o e => Or.inl (hT.new b o e))) hm (by simp), fun b o e => by have := hT.new b o e; omega, hT.le⟩, below_mark hb9 hc8 (Nat.le_trans hbw.size hD)⟩
set_option maxRecDepth 100000 in
theorem collectP_any (pts : Nat → PointD) (gf : Nat) (lb : Array Value) (N : Nat) (w : World) (hN : N ≤ 100000) (eg : ∀ args w, (callFunc gf args).run Tryz.prog w = .ok (.enter gf args) w)
    (hseq : ∀ (b : Nat) (v : World), Below w.heap.size w v → w.heap.size ≤ b → b < v.heap.size → IterOwn Tryz.prog gf lb PointD.v (fun _ _ k x _ => x = pts k) [b] 0 N v) : Calls Tryz.prog 111 #[(.func (.func gf) #[] lb)] w (fun e w' => ∃ A c, e = .returned (.slice A N c) ∧ NewT 2 PointD.cells w.heap.size w' A N c (lst N pts) ∧ Below w.heap.size w w') := by
  refine calls_ax (vs := [(.func (.func gf) #[] lb)]) Tryz.func111 rfl rfl ?_
  refine ac_seq (ac_region ?_)
  refine al_p (q_assign rfl) (al_end (aq_then ?_))
  refine ac_seq (ac_region ?_)
  refine al_p (q_move rfl) (al_call Tryz.call157 (.cons rfl (.cons rfl .nil)) rfl rfl (fun w1 hs1 => ?_))
  have hz := hs1.below.size
  refine (appendSeqP_any pts gf lb N _ hN eg (fun b v h1 h2 h3 => hseq b v (hs1.below.trans (h1.mono hs1.below.size)) (by have := hs1.below.size; omega) h3)).mono ?_
  rintro e u1 ⟨A9, c9, rfl, k1_, hb_1⟩
  refine ⟨_, rfl, hb_1, ?_⟩
  clear hs1
  refine al_p (q_assign rfl) (al_end (aq_then ?_))
  refine ac_ret (ret1 Tryz.results111 rfl (fun w9 hs => ?_))
  exact ⟨A9, c9, rfl, ⟨hs.newT (.head _) k1_, (fun b o e => Nat.le_trans hz (k1_.new b o e)), k1_.le⟩, hs.below⟩
end
section
set_option autoImplicit false
open Go.RowKit
theorem noDefer_at {ops : Array Oper} (h : noDefer ops.toList = true) {i : Nat} {o : Oper} (hi : ops[i]? = some o) : ∀ c, o.op ≠ .defer c := by
  have hm : o ∈ ops.toList := by
    rw [← Array.getElem?_toList] at hi
    exact List.mem_of_getElem? hi
  have := List.all_eq_true.1 h o hm
  intro c hc
  rw [hc] at this
  exact absurd this (by simp)
theorem opIn_of {F : Fence} (hF : Wide F) {P : Program} {ops : Array Oper} {Q : Exit → Act → World → Prop} (hQ : ¬ LetsOut Q) (hd : noDefer ops.toList = true) {i : Nat} {K K' : Act → World → Prop} {a : Act} {w : World} (hK : ∀ a w, K a w → K' a w) (h : wpOp P ops Q i K a w) : wpOpIn F 0 P ops Q i K' a w := by
  unfold wpOp at h
  unfold wpOpIn
  cases ho : ops[i]? with
  | none => simp only [ho] at h ⊢; exact hK _ _ h
  | some o =>
    simp only [ho] at h ⊢
    have hd1 := noDefer_at hd ho
    split at h
    · rename_i hw
      rw [if_pos hw]
      rcases h with h | h
      · refine ⟨fun f _ => hF.fn f, ?_⟩
        rw [hF.sem _ _ hd1]
        unfold Oper.wp at h
        revert h
        generalize (execOp a.eval o).run P w = r
        intro h
        cases r with
        | ok x w' =>
          cases x <;> simp only [Oper.upon, Oper.uponIn] at h ⊢ <;>
            first
              | exact h.elim
              | exact hK _ _ h
              | exact ⟨fun e => (by rw [hF.depth] at e; cases e), hF.calls (h.mono fun e w'' he => by cases e <;> first | exact hK _ _ he | exact he)⟩
              | exact ⟨fun e => (by rw [hF.depth] at e; cases e), hF.rows (h.mono fun _ _ he => hK _ _ he)⟩
        | halt x w' => cases x <;> simp only [Oper.upon, Oper.uponIn] at h ⊢ <;> first | exact h.elim | exact h
      · exact absurd h.2 hQ
    · rename_i hw
      rw [if_neg hw]
      exact ⟨fun f _ => hF.fn f, hK _ _ h⟩
theorem anyIn_of {F : Fence} (hF : Wide F) {P : Program} {md : Region.Mode} {ops : Array Oper} {Q : Exit → Act → World → Prop} (hQ : ¬ LetsOut Q) (hd : noDefer ops.toList = true) : ∀ (fuel : Nat) (listed : Array Bool) (a : Act) (w : World), wpAny P md ops Q fuel listed a w → wpAnyIn F 0 P md ops Q fuel listed a w
  | 0, _, _, _, h => h
  | fuel + 1, listed, a, w, h => ⟨h.1, fun i hi => opIn_of hF hQ hd (fun a' w' h' => anyIn_of hF hQ hd fuel _ a' w' h') (h.2 i hi)⟩
theorem ac_drawH {P : Program} {e0 : Cfg} {U : Snaps} {l : Slots} {L L1 G L0 : Boxes} {Q : Exit → Act → World → Prop} {id : Nat} {os : List Oper} (k last : Nat) (hT : Tl L1 G L) (hL : L1.drop k = L0) (hm : P.follows .mixedOrders = true) (hok : lastOk os.toArray last = true) (h : AH P os.toArray Q U L0 last os.toArray.size (Array.replicate os.toArray.size false) e0 U l L) : AC P e0 U l L (.region id os.toArray true) Q :=
  fun a w hf hs => wp_region_any hm (wpAny_of_G _ _ _ _ (h hok (DrawnTo.start _ _) a _ hf hs.drew))
end
section
open Go.RowKit
theorem ci_drawF {F : Fence} {P : Program} {e0 : Cfg} {U : Snaps} {l : Slots} {L L1 G : Boxes} {Q : Exit → Act → World → Prop} {id : Nat} {os : List Oper} (last : Nat) (hF : Wide F) (hQ : ¬ LetsOut Q) (hd : noDefer os = true) (hT : Tl L1 G L) (hm : P.follows .mixedOrders = true) (hok : lastOk os.toArray last = true) (k : AH P os.toArray Q U L1 last os.toArray.size (Array.replicate os.toArray.size false) e0 U l L) : CI F P e0 U l L (.region id os.toArray true) Q :=
  fun a w hf hs => wpIn_region_any hm (anyIn_of hF hQ hd _ _ _ _ (wpAny_of_G _ _ _ _ (k hok (DrawnTo.start _ _) a _ hf hs.drew)))
abbrev cCs (Q : CurR) : List Value := [.slice Q.A Q.la Q.ca, .slice Q.B Q.lb Q.cb, .slice Q.C Q.lc Q.cc]
def bareR (R : MachR) : MachR := ⟨R.A, R.B, R.C, none, R.la, R.ca, R.lb, R.cb, 1, R.cc, 0, 0⟩
def bareQ (Q : CurR) (b : Nat) : CurR := ⟨Q.A, Q.B, some ⟨b, 0, none⟩, Q.la, Q.ca, Q.lb, Q.cb, 1, 1⟩
theorem IsM.bare {w : World} {R : MachR} {M : MachD} (h : IsM w R M) (hl : 1 ≤ R.lc) : IsM w (bareR R) (bareM M) :=
  ⟨h.coils, h.shells, h.limits.take (k := 1) hl, IsT.nil _ _ _ _, h.la, h.lb, Nat.le_trans hl h.lc, Nat.le_refl _, h.ca, h.cb, h.cc, by simp [bareR], h.ka, h.kb, by simp [bareR], by simp [bareR]⟩
theorem IsC.bare {w : World} {Q : CurR} {C : CurD} {b : Nat} (h : IsC w Q C) (hb : BoxAt w b (.cells [.int .i64 0])) : IsC w (bareQ Q b) (bareC C) :=
  ⟨h.coils, h.shells, isT_box0 (n := 1) (enc := intCells) (fun _ => rfl) hb rfl rfl, h.la, h.lb, Nat.le_refl _, h.ca, h.cb, by simp [bareQ], h.ka, h.kb, by simp [bareQ]⟩
theorem IsT.keepx {α : Type} {z n : Nat} {enc : α → List Value} {w w' : World} {A : Option Addr} {zs : List α} (h : IsT z enc w A n zs) (hs : w.heap.size ≤ w'.heap.size) (hk : ∀ b, b < w.heap.size → w'.heap[b]? = w.heap[b]?) : IsT z enc w' A n zs :=
  h.keep hs fun b o e h0 => by
    obtain ⟨b', o', e', h1, _⟩ := h.2 h0
    rw [e] at e'; cases e'
    exact hk b h1
theorem IsM.keepx {w w' : World} {R : MachR} {M : MachD} (h : IsM w R M) (hs : w.heap.size ≤ w'.heap.size) (hk : ∀ b, b < w.heap.size → w'.heap[b]? = w.heap[b]?) : IsM w' R M :=
  ⟨h.coils.keepx hs hk, h.shells.keepx hs hk, h.limits.keepx hs hk, h.sensors.keepx hs hk, h.la, h.lb, h.lc, h.ld, h.ca, h.cb, h.cc, h.cd, h.ka, h.kb, h.kc, h.kd⟩
theorem IsC.keepx {w w' : World} {Q : CurR} {C : CurD} (h : IsC w Q C) (hs : w.heap.size ≤ w'.heap.size) (hk : ∀ b, b < w.heap.size → w'.heap[b]? = w.heap[b]?) : IsC w' Q C :=
  ⟨h.coils.keepx hs hk, h.shells.keepx hs hk, h.plasma.keepx hs hk, h.la, h.lb, h.lc, h.ca, h.cb, h.cc, h.ka, h.kb, h.kc⟩
theorem pflux_any (R : MachR) (M : MachD) (Q : CurR) (C : CurD) (p : PointD) (w : World) (hM : IsM w R (bareM M)) (hC : IsC w Q (bareC C)) (hf : Fit2 M C) (hp : nearB p.r p.z 100 = true) : Calls Tryz.prog 34 #[.agg (mCs R (bareM M)).toArray, .agg (cCs Q).toArray, .agg #[.int .i64 p.r, .int .i64 p.z]] w (Ret (.tuple #[.int .i64 (knP M C p), .int .i64 0]) w) := by
  have h := flux_any R (bareM M) Q (bareC C) p.r p.z w hM hC
  have e0 : fieldE (bareM M) (bareC C) p.r p.z = 0 := by unfold fieldE; rw [if_pos (fit2_iff.2 (bare_fit hf)), if_pos hp]
  have e : fluxE (bareM M) (bareC C) p.r p.z = (knP M C p, 0) := by unfold fluxE; rw [if_pos e0]; rfl
  rw [e] at h
  exact h
theorem eqf_bl_apiMachine_0_3_4 (a0 a1 c2_0 c2_1 c2_2 c2_3 c2_4 : Value) (ha0 : a0.oneCell' = true) (ha1 : a1.oneCell' = true) : ∀ w, (Instr.build 29 #[(0, a0), (3, a1), (4, .agg #[c2_0, c2_1, c2_2, c2_3, c2_4])]).run Tryz.prog w = .ok (.agg #[a0, (.slice none 0 0), (.slice none 0 0), a1, c2_0, c2_1, c2_2, c2_3, c2_4, (.slice none 0 0)]) w := by
  have ea0 : a0.cells = #[a0] := cells_one ha0
  have ea1 : a1.cells = #[a1] := cells_one ha1
  intro w; simp [Instr.build, Instr.fill, cells_agg, Tryz.runUnderlying29, Tryz.zeroValue29, Tryz.sizeOf9, Tryz.sizeOf22, Tryz.sizeOf23, Tryz.sizeOf24, Tryz.sizeOf26, Tryz.sizeOf27, ea0, ea1]
set_option maxRecDepth 100000 in
theorem places_any (R : MachR) (M : MachD) (w : World) (hM : IsM w R M) (hl : 1 ≤ R.lc) : Calls Tryz.prog 99 #[(.agg (mCs R M).toArray)] w (fun e w' => ∃ bg bm, e = .returned (.func (.func 152) #[] #[.pointer (some ⟨bg, 0, none⟩), .pointer (some ⟨bm, 0, none⟩)]) ∧ Own w [(bg, .cells (mCs (gridR R) (gridM M))), (bm, .cells (mCs R M))] w') := by
  have n1 := hM.lc
  refine calls_ax (vs := [(.agg (mCs R M).toArray)]) Tryz.func99 rfl rfl ?_
  refine ac_seq (ac_region ?_)
  refine al_new (fun b => .pointer (some ⟨b, 0, none⟩)) (r_box rfl rfl) rfl rfl rfl ?_
  intro b1
  refine al_p (q_assign rfl) (al_end (aq_then ?_))
  refine ac_seq (ac_draw 9 (by kernel_rfl) (by kernel_rfl) ?_)
  refine ah_t 0 (fun w9 hs => hs) rfl rfl (by kernel_rfl) (q_fieldAddr 0 rfl Tryz.runUnderlying29 rfl Tryz.sizeOf9 (by decide) rfl) (ah_t 1 (fun w9 hs => hs) rfl rfl (by kernel_rfl) (q_load (i := 0) rfl rfl rfl Tryz.isAgg9) ?_)
  refine ah_t 2 (fun w9 hs => hs) rfl rfl (by kernel_rfl) (q_fieldAddr 3 rfl Tryz.runUnderlying29 rfl Tryz.sizeOf24 (by decide) rfl) (ah_t 3 (fun w9 hs => hs) rfl rfl (by kernel_rfl) (q_load (i := 0) rfl rfl rfl Tryz.isAgg24) ?_)
  refine ah_t 4 (fun w9 hs => hs) rfl rfl (by kernel_rfl) (q_upto (hi := 1) rfl rfl rfl (by omega) Tryz.underlying24 Tryz.sizeOf36) ?_
  refine ah_t 5 (fun w9 hs => hs) rfl rfl (by kernel_rfl) (q_fieldAddr 4 rfl Tryz.runUnderlying29 rfl Tryz.sizeOf26 (by decide) rfl) (ah_t 6 (fun w9 hs => hs) rfl rfl (by kernel_rfl) (q_loadSub (i := 0) rfl rfl Tryz.isAgg26 Tryz.sizeOf26 .k4 .k5) (ah_t 7 (fun w9 hs => hs) rfl rfl (by kernel_rfl) (q_build (.cons rfl (.cons rfl (.cons rfl .nil))) (eqf_bl_apiMachine_0_3_4 _ _ _ _ _ _ _ rfl rfl)) (ah_one 8 rfl (by kernel_rfl) (fun hok1 hcl1 => ?_))))
  refine al_new (fun b => .pointer (some ⟨b, 0, none⟩)) (r_alloc Tryz.zeroValue29 rfl) rfl rfl rfl ?_
  intro b2
  refine al_end (ah_back hok1 hcl1 (fun w9 hs => (hs.tail 1 rfl)) ?_)
  refine ah_one 9 rfl (by kernel_rfl) (fun hok2 hcl2 => ?_)
  refine al_storeAll (i := 0) rfl rfl rfl rfl Tryz.sizeOf29 rfl rfl .k0 rfl (al_end (ah_last (by kernel_rfl) ?_))
  refine aq_then (ac_seq (ac_region ?_))
  refine al_p (q_makeFunc _ _ .nil (.cons rfl (.cons rfl .nil))) (al_p (q_assign rfl) (al_end (aq_then ?_)))
  refine ac_ret (ret1 Tryz.results99 rfl (fun w9 hs => ?_))
  exact ⟨b2, b1, rfl, hs.own (.cons (j := 0) rfl (.cons (j := 1) rfl .nil)) (by decide)⟩
theorem eqf_bl_apiGrid_2_3_4 (a0 a1 a2 : Value) (ha0 : a0.oneCell' = true) (ha1 : a1.oneCell' = true) (ha2 : a2.oneCell' = true) : ∀ w, (Instr.build 26 #[(2, a0), (3, a1), (4, a2)]).run Tryz.prog w = .ok (.agg #[(.int .i64 0), (.int .i64 0), a0, a1, a2]) w := by
  have ea0 : a0.cells = #[a0] := cells_one ha0
  have ea1 : a1.cells = #[a1] := cells_one ha1
  have ea2 : a2.cells = #[a2] := cells_one ha2
  intro w; simp [Instr.build, Instr.fill, cells_agg, Tryz.runUnderlying26, Tryz.zeroValue26, Tryz.sizeOf3, ea0, ea1, ea2]
theorem eqf_bs_int_1_0_ (a0 : Value) (ha0 : a0.oneCell' = true) : ∀ w, (Instr.buildSlice 30 1 #[(0, a0)]).run Tryz.prog w = .ok (.slice (some ⟨w.heap.size, 0, none⟩) 1 1) (w.alloc (.cells [a0].toArray 3)) := by
  have ea0 : a0.cells = #[a0] := cells_one ha0
  intro w; (simp [Instr.buildSlice, Instr.fill, cells_agg, newRow, Tryz.runUnderlying30, Tryz.zeroValue3, Tryz.sizeOf3, ea0] <;> (rw [(by kernel_rfl : Array.range 1 = #[0])]; simp [Value.cells]))
set_option maxRecDepth 100000 in
theorem withoutPlasma_any (R : MachR) (M : MachD) (Q : CurR) (C : CurD) (w : World) (hM : IsM w R M) (hC : IsC w Q C) (hl : 1 ≤ R.lc) : Calls Tryz.prog 43 #[(.agg (mCs R M).toArray), (.agg (cCs Q).toArray)] w (fun e w' => ∃ b, e = .returned (.tuple #[.agg (mCs (bareR R) (bareM M)).toArray, .agg (cCs (bareQ Q b)).toArray]) ∧ Own w [(b, .cells [.int .i64 0])] w') := by
  have n1 := hM.lc
  refine calls_ax (vs := [(.agg (mCs R M).toArray), (.agg (cCs Q).toArray)]) Tryz.func43 rfl rfl ?_
  refine ac_seq (ac_region ?_)
  refine al_new (fun b => .pointer (some ⟨b, 0, none⟩)) (r_box rfl rfl) rfl rfl rfl ?_
  intro b1
  refine al_new (fun b => .pointer (some ⟨b, 0, none⟩)) (r_box rfl rfl) rfl rfl rfl ?_
  intro b2
  refine al_new (fun b => .pointer (some ⟨b, 0, none⟩)) (r_alloc Tryz.zeroValue29 rfl) rfl rfl rfl ?_
  intro b3
  refine al_new (fun b => .pointer (some ⟨b, 0, none⟩)) (r_alloc Tryz.zeroValue32 rfl) rfl rfl rfl ?_
  intro b4
  refine al_end (aq_then ?_)
  refine ac_seq (ac_region ?_)
  refine al_p (q_fieldAddr 3 rfl Tryz.runUnderlying29 rfl Tryz.sizeOf24 (by decide) rfl) (al_p (q_load (i := 3) rfl rfl rfl Tryz.isAgg24) ?_)
  refine al_p (q_upto (hi := 1) rfl rfl rfl (by omega) Tryz.underlying24 Tryz.sizeOf36) ?_
  refine al_p (q_fieldAddr 3 rfl Tryz.runUnderlying29 rfl Tryz.sizeOf24 (by decide) rfl) (al_store1 (i := 3) rfl rfl rfl rfl Tryz.sizeOf24 .k3 .k3 rfl (al_end (aq_then ?_)))
  refine ac_seq (ac_region ?_)
  refine al_p (q_build (.cons rfl (.cons rfl (.cons rfl .nil))) (eqf_bl_apiGrid_2_3_4 _ _ _ rfl rfl rfl)) ?_
  refine al_p (q_fieldAddr 4 rfl Tryz.runUnderlying29 rfl Tryz.sizeOf26 (by decide) rfl) (al_storeSub (i := 3) rfl rfl rfl Tryz.sizeOf26 rfl (.s (.s (.s (.s (.z (.s (.s (.s (.s (.s (.z))))))))))) rfl .k3 rfl (al_end (aq_then ?_)))
  refine ac_seq (ac_region ?_)
  refine al_p (q_fieldAddr 9 rfl Tryz.runUnderlying29 rfl Tryz.sizeOf27 (by decide) rfl) (al_store1 (i := 3) rfl rfl rfl rfl Tryz.sizeOf27 .k9 .k3 rfl (al_end (aq_then ?_)))
  refine ac_seq (ac_region ?_)
  refine al_new (fun b => .slice (some ⟨b, 0, none⟩) 1 1) (r_buildSlice (.cons rfl .nil) (eqf_bs_int_1_0_ _ rfl)) rfl rfl rfl ?_
  intro b5
  refine al_p (q_fieldAddr 2 rfl Tryz.runUnderlying32 rfl Tryz.sizeOf30 (by decide) rfl) (al_store1 (i := 3) rfl rfl rfl rfl Tryz.sizeOf30 .k2 .k3 rfl (al_end (aq_then ?_)))
  refine ac_seq (ac_drawK 3 3 rfl (by kernel_rfl) (by kernel_rfl) ?_)
  refine ah_t 0 (fun w9 hs => (hs.tail 3 rfl)) rfl rfl (by kernel_rfl) (q_loadAll (i := 1) rfl rfl Tryz.isAgg29 Tryz.sizeOf29 rfl) (ah_t 1 (fun w9 hs => (hs.tail 3 rfl)) rfl rfl (by kernel_rfl) (q_loadAll (i := 0) rfl rfl Tryz.isAgg32 Tryz.sizeOf32 rfl) (ah_one 2 rfl (by kernel_rfl) (fun hok1 hcl1 => ?_)))
  refine al_storeAll (i := 2) rfl rfl rfl rfl Tryz.sizeOf29 rfl rfl .k2 rfl (al_end (ah_back hok1 hcl1 (fun w9 hs => (hs.tail 3 rfl)) ?_))
  refine ah_one 3 rfl (by kernel_rfl) (fun hok2 hcl2 => ?_)
  refine al_storeAll (i := 1) rfl rfl rfl rfl Tryz.sizeOf32 rfl rfl .k1 rfl (al_end (ah_last (by kernel_rfl) ?_))
  refine aq_then (ac_ret (retR Tryz.results43 (.agg (i := 2) rfl rfl Tryz.isAgg29 Tryz.sizeOf29 rfl (.agg (i := 1) rfl rfl Tryz.isAgg32 Tryz.sizeOf32 rfl .nil)) .two (fun w9 hs => ?_)))
  exact ⟨b5, rfl, hs.own (.cons (j := 0) rfl .nil) (by decide)⟩
end
end Go.Proofs.YtogcjgjhmlifgaaGreat
