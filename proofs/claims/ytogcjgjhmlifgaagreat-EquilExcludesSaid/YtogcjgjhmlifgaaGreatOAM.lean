import Derived.Test.YtogcjgjhmlifgaaGreatOAE
import Derived.Test.YtogcjgjhmlifgaaGreatOAG
import Derived.Test.YtogcjgjhmlifgaaGreatOAK
import Derived.Test.YtogcjgjhmlifgaaGreatOAL
import Derived.Recover
import Derived.Handy
import Derived.Outline
import Derived.Test.YtogcjgjhmlifgaaGreatRows
import Derived.KernelRfl
import Derived.Deep.Upon
namespace Go.Proofs.YtogcjgjhmlifgaaGreat
set_option linter.unusedVariables false
set_option linter.unusedSimpArgs false
section
set_option autoImplicit false
open Go.RowKit
section
variable {P : Program} {e0 : Cfg} {U : Snaps} {l : Slots} {L : Boxes} {ops : Array Oper} {Q : Exit → Act → World → Prop} {rest : List Oper} {d : Nat} {v : Value}
variable {ty : TypeId} {pos : String} {af : Array Edge} {g : Option (Nat × Bool)} {dd : Option Nat}
theorem Fr.defer {n : Nat} {D : List Deferred} {w0 : World} {bs : List Nat} {a : Act} (h : Fr ⟨n, D, w0, bs⟩ l a) (x : Deferred) (u : Value) : Fr ⟨n, x :: D, w0, bs⟩ l ({ a with defers := x :: a.defers }.put none u) :=
  ⟨h.size, by show x :: a.defers = x :: D; rw [h.defers], h.slot⟩
end
end
section
open Go.RowKit
theorem flat_get {α : Type} {n : Nat} {enc : α → List Value} (hl : ∀ x, (enc x).length = n) : ∀ (zs : List α) (j : Nat) (x : α), zs[j]? = some x → ∀ (i : Nat) (v : Value), (enc x)[i]? = some v → (zs.flatMap enc)[j * n + i]? = some v
  | [], j, x, h, i, v, hv => by simp at h
  | z :: zs, 0, x, h, i, v, hv => by
    obtain rfl : z = x := by simpa using h
    have hi := (List.getElem?_eq_some_iff.1 hv).1
    simp only [List.flatMap_cons, Nat.zero_mul, Nat.zero_add]
    rw [List.getElem?_append_left hi]; exact hv
  | z :: zs, j + 1, x, h, i, v, hv => by
    simp only [List.flatMap_cons]
    rw [List.getElem?_append_right (by rw [hl, Nat.add_mul]; omega), hl]
    have e : (j + 1) * n + i - n = j * n + i := by rw [Nat.add_mul]; omega
    rw [e]
    exact flat_get hl zs j x (by simpa using h) i v hv
theorem isT_box {α : Type} {n : Nat} {enc : α → List Value} (hl : ∀ x, (enc x).length = n) {w : World} {b : Nat} {cs sp : List Value} {zs : List α} {len : Nat} (h : BoxAt w b (.cells (cs ++ sp))) (hz : zs.flatMap enc = cs) (hn : zs.length = len) : IsT n enc w (some ⟨b, 0, none⟩) len zs := by
  refine ⟨hn, fun _ => ⟨b, 0, rfl, h.lt, fun j x hx i v hv => ?_⟩⟩
  have hc := flat_get hl zs j x hx i v hv
  rw [hz] at hc
  have hlt := (List.getElem?_eq_some_iff.1 hc).1
  rw [Nat.zero_add]
  exact (h.cell _ rfl _ v (by rw [List.getElem?_append_left hlt]; exact hc)).1
theorem isT_box0 {α : Type} {n : Nat} {enc : α → List Value} (hl : ∀ x, (enc x).length = n) {w : World} {b : Nat} {cs : List Value} {zs : List α} {len : Nat} (h : BoxAt w b (.cells cs)) (hz : zs.flatMap enc = cs) (hn : zs.length = len) : IsT n enc w (some ⟨b, 0, none⟩) len zs :=
  isT_box (sp := []) hl (by simpa using h) hz hn
theorem Sta.at {E : Cfg} {U : Snaps} {L : Boxes} {w : World} (h : Sta E U L w) (i : Nat) {b : Nat} {c : Cont} (hi : L[i]? = some (b, c)) : BoxAt w b c := (h.box i b c hi).2
theorem Sta.isT {α : Type} {n : Nat} {enc : α → List Value} {E : Cfg} {U : Snaps} {L : Boxes} {w : World} (h : Sta E U L w) {lo : Nat} {u : World} (hu : (lo, u) ∈ U) {A : Option Addr} {len : Nat} {zs : List α} (hz : IsT n enc u A len zs)
    (hA : ∀ b o, A = some ⟨b, o, none⟩ → lo ≤ b ∨ b < E.w.heap.size ∧ b ∉ E.lent) : IsT n enc w A len zs :=
  ⟨hz.1, fun h0 => by
    obtain ⟨b, o, e, h1, h2⟩ := hz.2 h0
    have hk : w.heap[b]? = u.heap[b]? := h.old hu (by rcases hA b o e with g | g; exact Or.inl ⟨g, h1⟩; exact Or.inr g)
    refine ⟨b, o, e, ?_, fun j x hx i v hv => ?_⟩
    · have := (h.snap lo u hu).2.2.1; omega
    · rw [World.cell?_of_block (w := u) (w' := w) (a := ⟨b, _, none⟩) hk]; exact h2 j x hx i v hv⟩
structure NewM (w : World) (R : MachR) : Prop where
  a : ∀ b o, R.A = some ⟨b, o, none⟩ → w.heap.size ≤ b
  b : ∀ b o, R.B = some ⟨b, o, none⟩ → w.heap.size ≤ b
  c : ∀ b o, R.C = some ⟨b, o, none⟩ → w.heap.size ≤ b
  d : ∀ b o, R.D = some ⟨b, o, none⟩ → w.heap.size ≤ b
theorem NewM.mono {w v : World} {R : MachR} (h : NewM v R) (hz : w.heap.size ≤ v.heap.size) : NewM w R :=
  ⟨fun b o e => Nat.le_trans hz (h.a b o e), fun b o e => Nat.le_trans hz (h.b b o e), fun b o e => Nat.le_trans hz (h.c b o e), fun b o e => Nat.le_trans hz (h.d b o e)⟩
theorem Sta.new {n : Nat} {D : List Deferred} {w0 : World} {U : Snaps} {L : Boxes} {w : World} (h : Sta ⟨n, D, w0, []⟩ U L w) (i : Nat) {b : Nat} {c : Cont} (hi : L[i]? = some (b, c)) : ∀ b' o, some (⟨b, 0, none⟩ : Addr) = some ⟨b', o, none⟩ → w0.heap.size ≤ b' := fun b' o e => by
  cases e
  rcases (h.box i b c hi).1 with g | g
  · exact g
  · cases g
theorem Sta.isM {E : Cfg} {U : Snaps} {L : Boxes} {w : World} (h : Sta E U L w) {v u : World} (hu : (v.heap.size, u) ∈ U) {R : MachR} {M : MachD} (hM : IsM u R M) (hN : NewM v R) : IsM w R M :=
  ⟨h.isT hu hM.coils fun b o e => Or.inl (hN.a b o e), h.isT hu hM.shells fun b o e => Or.inl (hN.b b o e), h.isT hu hM.limits fun b o e => Or.inl (hN.c b o e), h.isT hu hM.sensors fun b o e => Or.inl (hN.d b o e), hM.la, hM.lb, hM.lc, hM.ld, hM.ca, hM.cb, hM.cc, hM.cd, hM.ka, hM.kb, hM.kc, hM.kd⟩
end
section
open Go.RowKit
def BoxL (b : Nat) (vs : List Value) (W : World) : Prop := b < W.heap.size ∧ ∀ (k : Nat) (v : Value), vs[k]? = some v → W.cell? ⟨b, k, none⟩ = some v
theorem BoxL.at {b : Nat} {vs : List Value} {W : World} (h : BoxL b vs W) (k : Nat) (v : Value) (hv : vs[k]? = some v) : W.cell? ⟨b, k, none⟩ = some v := h.2 k v hv
theorem BoxL.below {b : Nat} {vs : List Value} {W W' : World} (h : BoxL b vs W) (hb : Below W.heap.size W W') : BoxL b vs W' :=
  ⟨Nat.lt_of_lt_of_le h.1 hb.size, fun k v hv => (hb.cell (p := ⟨b, k, none⟩) h.1).trans (h.2 k v hv)⟩
theorem BoxL.mk3 {b : Nat} {v0 v1 v2 : Value} {W : World} (hb : b < W.heap.size) (h0 : W.cell? ⟨b, 0, none⟩ = some v0) (h1 : W.cell? ⟨b, 1, none⟩ = some v1) (h2 : W.cell? ⟨b, 2, none⟩ = some v2) : BoxL b [v0, v1, v2] W :=
  ⟨hb, fun k v hv => by match k, hv with | 0, hv => rw [h0]; exact hv | 1, hv => rw [h1]; exact hv | 2, hv => rw [h2]; exact hv⟩
theorem BoxL.mk10 {b : Nat} {v0 v1 v2 v3 v4 v5 v6 v7 v8 v9 : Value} {W : World} (hb : b < W.heap.size) (h0 : W.cell? ⟨b, 0, none⟩ = some v0) (h1 : W.cell? ⟨b, 1, none⟩ = some v1) (h2 : W.cell? ⟨b, 2, none⟩ = some v2) (h3 : W.cell? ⟨b, 3, none⟩ = some v3) (h4 : W.cell? ⟨b, 4, none⟩ = some v4) (h5 : W.cell? ⟨b, 5, none⟩ = some v5) (h6 : W.cell? ⟨b, 6, none⟩ = some v6) (h7 : W.cell? ⟨b, 7, none⟩ = some v7) (h8 : W.cell? ⟨b, 8, none⟩ = some v8) (h9 : W.cell? ⟨b, 9, none⟩ = some v9) : BoxL b [v0, v1, v2, v3, v4, v5, v6, v7, v8, v9] W :=
  ⟨hb, fun k v hv => by match k, hv with | 0, hv => rw [h0]; exact hv | 1, hv => rw [h1]; exact hv | 2, hv => rw [h2]; exact hv | 3, hv => rw [h3]; exact hv | 4, hv => rw [h4]; exact hv | 5, hv => rw [h5]; exact hv | 6, hv => rw [h6]; exact hv | 7, hv => rw [h7]; exact hv | 8, hv => rw [h8]; exact hv | 9, hv => rw [h9]; exact hv⟩
def MarkL (b n : Nat) (W : World) : Prop := b < W.heap.size ∧ ∀ k, k < n → W.frozen? ⟨b, k, none⟩ = false
theorem MarkL.at {b n : Nat} {W : World} (h : MarkL b n W) (k : Nat) (hk : k < n) : W.frozen? ⟨b, k, none⟩ = false := h.2 k hk
theorem MarkL.below {b n : Nat} {W W' : World} (h : MarkL b n W) (hb : Below W.heap.size W W') : MarkL b n W' :=
  ⟨Nat.lt_of_lt_of_le h.1 hb.size, fun k hk => (hb.frozen (p := ⟨b, k, none⟩) h.1).trans (h.2 k hk)⟩
end
section
open Go.RowKit Go.Shelf
end
section
open Go.RowKit
def zeros (n : Nat) : List Value := List.replicate n (.int .i64 0)
end
section
open Go.RowKit
def fieldE (M : MachD) (C : CurD) (p0 p1 : Int) : Int := if validC M C = true then (if nearB p0 p1 100 = true then 0 else 7) else 1
theorem fieldE_ok {M : MachD} {C : CurD} {p0 p1 : Int} (h : fieldE M C p0 p1 = 0) : Fit2 M C ∧ nearB p0 p1 100 = true := by
  unfold fieldE at h
  split at h
  · rename_i hv
    split at h
    · rename_i hn; exact ⟨fit2_iff.1 hv, hn⟩
    · omega
  · omega
def fluxE (M : MachD) (C : CurD) (p0 p1 : Int) : Int × Int := if fieldE M C p0 p1 = 0 then (fluxP (p0, p1) (srcM M C), 0) else (0, fieldE M C p0 p1)
set_option maxRecDepth 100000 in
theorem checkField_any (R : MachR) (M : MachD) (Q : CurR) (C : CurD) (p0 p1 : Int) (w : World) (hM : IsM w R M) (hC : IsC w Q C) : Calls Tryz.prog 76 #[(.agg (machCells R M)), Q.v, (.agg #[.int .i64 p0, .int .i64 p1])] w (Ret (.int .i64 (fieldE M C p0 p1)) w) := by
  refine calls_ax (vs := [(.agg (machCells R M)), Q.v, (.agg #[.int .i64 p0, .int .i64 p1])]) Tryz.func76 rfl rfl ?_
  refine ac_seq (ac_region ?_)
  refine al_new (fun b => .pointer (some ⟨b, 0, none⟩)) (r_box rfl rfl) rfl rfl rfl ?_
  intro b1
  refine al_new (fun b => .pointer (some ⟨b, 0, none⟩)) (r_box rfl rfl) rfl rfl rfl ?_
  intro b2
  refine al_new (fun b => .pointer (some ⟨b, 0, none⟩)) (r_box rfl rfl) rfl rfl rfl ?_
  intro b3
  refine al_p (q_assign rfl) (al_end (aq_then ?_))
  refine ac_seq (ac_seq (ac_region ?_))
  refine al_p (q_loadAll (i := 2) rfl rfl Tryz.isAgg29 Tryz.sizeOf29 rfl) (al_p (q_loadAll (i := 1) rfl rfl Tryz.isAgg32 Tryz.sizeOf32 rfl) (al_call Tryz.call42 (.cons rfl (.cons rfl .nil)) rfl rfl (fun w1 hs1 => ?_)))
  refine (validCurrents_any R M Q C _ (hM.below hs1.below) (hC.below hs1.below)).mono ?_
  rintro e u1 ⟨rfl, hb_1⟩
  refine ⟨_, rfl, hb_1, ?_⟩
  clear hs1
  refine al_p (q_not rfl) (al_end (aq_then ?_))
  refine ac_cond rfl (fun h1 => ?_) (fun h1 => ?_)
  · refine ac_seq (ac_region ?_)
    refine al_p (q_assign rfl) (al_end (aq_then ?_))
    refine ac_ret (aq_thenR (ret1 Tryz.results76 rfl (fun w9 hs => ?_)))
    refine ⟨?_, hs.below⟩; simp_all [fieldE]
  · refine ac_skip (aq_then (ac_seq (ac_region ?_)))
    refine al_p (q_fieldAddr 0 rfl Tryz.runUnderlying36 rfl Tryz.sizeOf3 (by decide) rfl) (al_p (q_load (i := 0) rfl rfl rfl Tryz.isAgg3) ?_)
    refine al_p (q_fieldAddr 1 rfl Tryz.runUnderlying36 rfl Tryz.sizeOf3 (by decide) rfl) (al_p (q_load (i := 0) rfl rfl rfl Tryz.isAgg3) (al_call Tryz.call116 (.cons rfl (.cons rfl (.cons rfl .nil))) rfl rfl (fun w2 hs2 => ?_)))
    refine (near_any p0 p1 100 _ (by decide) (by decide)).mono ?_
    rintro e u2 ⟨rfl, rfl⟩
    refine ⟨_, rfl, (Below.refl _ _), ?_⟩
    clear hs2
    refine al_inl Tryz.call115 (.cons rfl .nil) rfl rfl Tryz.func115 rfl rfl ?_
    refine ac_seq (ac_region ?_)
    refine al_p (q_assign rfl) (al_end (aq_then ?_))
    refine ac_seq (ac_seq (ac_region ?_))
    refine al_p (q_move rfl) (al_p (q_not rfl) (al_end (aq_then ?_)))
    refine ac_cond rfl (fun h2 => ?_) (fun h2 => ?_)
    · refine ac_seq (ac_region ?_)
      refine al_p (q_assign rfl) (al_end (aq_then ?_))
      refine ac_ret (aq_thenR (retI Tryz.results115 (.tmp rfl .nil) .one ?_))
      refine al_p (q_assign rfl) (al_end (aq_then ?_))
      refine ac_ret (ret1 Tryz.results76 rfl (fun w9 hs => ?_))
      refine ⟨?_, hs.below⟩; simp_all [fieldE]
    · refine ac_skip (aq_then (ac_seq (ac_region ?_)))
      refine al_p (q_assign rfl) (al_end (aq_then ?_))
      refine ac_ret (retI Tryz.results115 (.tmp rfl .nil) .one ?_)
      refine al_p (q_assign rfl) (al_end (aq_then ?_))
      refine ac_ret (ret1 Tryz.results76 rfl (fun w9 hs => ?_))
      refine ⟨?_, hs.below⟩; simp_all [fieldE]
set_option maxRecDepth 100000 in
theorem flux_any (R : MachR) (M : MachD) (Q : CurR) (C : CurD) (p0 p1 : Int) (w : World) (hM : IsM w R M) (hC : IsC w Q C) : Calls Tryz.prog 34 #[(.agg (machCells R M)), Q.v, (.agg #[.int .i64 p0, .int .i64 p1])] w (Ret (.tuple #[.int .i64 (fluxE M C p0 p1).1, .int .i64 (fluxE M C p0 p1).2]) w) := by
  refine calls_ax (vs := [(.agg (machCells R M)), Q.v, (.agg #[.int .i64 p0, .int .i64 p1])]) Tryz.func34 rfl rfl ?_
  refine ac_seq (ac_region ?_)
  refine al_new (fun b => .pointer (some ⟨b, 0, none⟩)) (r_box rfl rfl) rfl rfl rfl ?_
  intro b1
  refine al_new (fun b => .pointer (some ⟨b, 0, none⟩)) (r_box rfl rfl) rfl rfl rfl ?_
  intro b2
  refine al_new (fun b => .pointer (some ⟨b, 0, none⟩)) (r_box rfl rfl) rfl rfl rfl ?_
  intro b3
  refine al_p (q_assign rfl) (al_p (q_assign rfl) (al_end (aq_then ?_)))
  refine ac_seq (ac_seq (ac_region ?_))
  refine al_p (q_loadAll (i := 2) rfl rfl Tryz.isAgg29 Tryz.sizeOf29 rfl) (al_p (q_loadAll (i := 1) rfl rfl Tryz.isAgg32 Tryz.sizeOf32 rfl) (al_p (q_loadAll (i := 0) rfl rfl Tryz.isAgg36 Tryz.sizeOf36 rfl) (al_call Tryz.call76 (.cons rfl (.cons rfl (.cons rfl .nil))) rfl rfl (fun w1 hs1 => ?_))))
  refine (checkField_any R M Q C p0 p1 _ (hM.below hs1.below) (hC.below hs1.below)).mono ?_
  rintro e u1 ⟨rfl, hb_1⟩
  refine ⟨_, rfl, hb_1, ?_⟩
  clear hs1
  refine al_p (q_assign rfl) (al_end (aq_then ?_))
  refine ac_seq (ac_region ?_)
  refine al_p (q_move rfl) (al_p (q_neq rfl rfl) (al_end (aq_then ?_)))
  refine ac_cond rfl (fun h1 => ?_) (fun h1 => ?_)
  · have hf : fieldE M C p0 p1 ≠ 0 := by simpa using h1
    refine ac_seq (ac_region ?_)
    refine al_p (q_move rfl) (al_p (q_assign rfl) (al_p (q_assign rfl) (al_end (aq_then ?_))))
    refine ac_ret (aq_thenR (ret2 Tryz.results34 rfl rfl (fun w9 hs => ?_)))
    refine ⟨?_, hs.below⟩; simp [fluxE, hf]
  · have hf : fieldE M C p0 p1 = 0 := by simpa using h1
    obtain ⟨hv, hn⟩ := fieldE_ok hf
    have hn2 := nearB_iff.1 hn
    refine ac_skip (aq_then (ac_seq (ac_region ?_)))
    refine al_p (q_loadAll (i := 2) rfl rfl Tryz.isAgg29 Tryz.sizeOf29 rfl) (al_p (q_loadAll (i := 1) rfl rfl Tryz.isAgg32 Tryz.sizeOf32 rfl) (al_p (q_loadAll (i := 0) rfl rfl Tryz.isAgg36 Tryz.sizeOf36 rfl) (al_call Tryz.call77 (.cons rfl (.cons rfl (.cons rfl .nil))) rfl rfl (fun w2 hs2 => ?_))))
    refine (fluxAt_any R M Q C p0 p1 _ (hM.below hs2.below) (hC.below hs2.below) hv).mono ?_
    rintro e u2 ⟨rfl, hb_2⟩
    refine ⟨_, rfl, hb_2, ?_⟩
    clear hs2
    refine al_p (q_assign rfl) (al_p (q_assign rfl) (al_end (aq_then ?_)))
    refine ac_ret (ret2 Tryz.results34 rfl rfl (fun w9 hs => ?_))
    refine ⟨?_, hs.below⟩; simp [fluxE, hf]
def cellsN (M : MachD) : Int := if checkC M = 0 then M.grid.nr * M.grid.nz else 0
set_option maxRecDepth 100000 in
theorem mcells_any (R : MachR) (M : MachD) (w : World) (hM : IsM w R M) : Calls Tryz.prog 93 #[(.agg (machCells R M))] w (Ret (.int .i64 (cellsN M)) w) := by
  refine calls_ax (vs := [(.agg (machCells R M))]) Tryz.func93 rfl rfl ?_
  refine ac_seq (ac_region ?_)
  refine al_new (fun b => .pointer (some ⟨b, 0, none⟩)) (r_box rfl rfl) rfl rfl rfl ?_
  intro b1
  refine al_p (q_assign rfl) (al_end (aq_then ?_))
  refine ac_seq (ac_seq (ac_region ?_))
  refine al_p (q_loadAll (i := 0) rfl rfl Tryz.isAgg29 Tryz.sizeOf29 rfl) (al_call Tryz.call88 (.cons rfl .nil) rfl rfl (fun w1 hs1 => ?_))
  refine (check_any R M _ (hM.below hs1.below)).mono ?_
  rintro e u1 ⟨rfl, hb_1⟩
  refine ⟨_, rfl, hb_1, ?_⟩
  clear hs1
  refine al_p (q_neq rfl rfl) (al_end (aq_then ?_))
  refine ac_cond rfl (fun h1 => ?_) (fun h1 => ?_)
  · have hc : checkC M ≠ 0 := by simpa using h1
    refine ac_seq (ac_region ?_)
    refine al_p (q_assign rfl) (al_end (aq_then ?_))
    refine ac_ret (aq_thenR (ret1 Tryz.results93 rfl (fun w9 hs => ?_)))
    refine ⟨?_, hs.below⟩; simp [cellsN, hc]
  · have hc : checkC M = 0 := by simpa using h1
    have hg := cells_fine (sound_of hc).grid
    refine ac_skip (aq_then (ac_seq (ac_region ?_)))
    refine al_p (q_fieldAddr 4 rfl Tryz.runUnderlying29 rfl Tryz.sizeOf26 (by decide) rfl) (al_p (q_loadSub (i := 0) rfl rfl Tryz.isAgg26 Tryz.sizeOf26 .k4 .k5) (al_call Tryz.call90 (.cons rfl .nil) rfl rfl (fun w2 hs2 => ?_)))
    refine (cells_any M.grid _ (by omega) (by omega)).mono ?_
    rintro e u2 ⟨rfl, hb_2⟩
    refine ⟨_, rfl, hb_2, ?_⟩
    clear hs2
    refine al_p (q_assign rfl) (al_end (aq_then ?_))
    refine ac_ret (ret1 Tryz.results93 rfl (fun w9 hs => ?_))
    refine ⟨?_, hs.below⟩; simp [cellsN, hc]
end
section
open Go.RowKit
def bareM (M : MachD) : MachD := ⟨M.name, M.coils, M.shells, M.limits.take 1, ⟨0, 0, 1, 1, 1⟩, []⟩
def bareC (C : CurD) : CurD := ⟨C.coils, C.shells, [0]⟩
def gridM (M : MachD) : MachD := ⟨M.name, [], [], M.limits.take 1, M.grid, []⟩
theorem orL_iff {l : List Int} : orL l = 0 ↔ ∀ x ∈ l, x = 0 := by
  induction l with
  | nil => simp [orL]
  | cons a r ih =>
    simp only [orL, List.mem_cons, forall_eq_or_imp]
    split
    · rename_i h; rw [ih]; exact ⟨fun g => ⟨h, g⟩, fun g => g.2⟩
    · rename_i h; exact ⟨fun g => absurd g h, fun g => absurd g.1 h⟩
theorem checkC_iff {M : MachD} : checkC M = 0 ↔ nameC M.name = 0 ∧ eachC coilC 12 M.coils = 0 ∧ eachC shellC 16 M.shells = 0 ∧ limitsC M.limits = 0 ∧ gridC M.grid = 0 ∧ eachC sensorC 24 M.sensors = 0 := by
  unfold checkC
  rw [orL_iff]
  simp
theorem limits_one {l : List PointD} (h : limitsC l = 0) : limitsC (l.take 1) = 0 ∧ 1 ≤ l.length := by
  cases l with
  | nil => simp [limitsC] at h
  | cons a r =>
    simp only [limitsC, List.length_cons, Nat.add_eq_zero_iff, Nat.succ_ne_self, and_false, if_false, eachC] at h
    refine ⟨?_, by simp⟩
    split at h
    · simp at h
    · simp only [eachGo] at h
      have h1 : limitC a [] = 0 := by
        apply Classical.byContradiction
        intro g
        rw [if_neg g] at h
        exact g h
      simp [limitsC, eachC, eachGo, h1]
theorem each_nil {α : Type} (chk : α → List α → Int) (n : Int) (h : 0 ≤ n) : eachC chk n [] = 0 := by
  unfold eachC
  rw [if_neg (by simp; omega)]
  rfl
theorem bare_check {M : MachD} (h : checkC M = 0) : checkC (bareM M) = 0 := by
  obtain ⟨h1, h2, h3, h4, h5, h6⟩ := checkC_iff.1 h
  exact checkC_iff.2 ⟨h1, h2, h3, (limits_one h4).1, (by decide : gridC ⟨0, 0, 1, 1, 1⟩ = 0), each_nil _ _ (by omega)⟩
theorem gridM_check {M : MachD} (h : checkC M = 0) : checkC (gridM M) = 0 := by
  obtain ⟨h1, h2, h3, h4, h5, h6⟩ := checkC_iff.1 h
  exact checkC_iff.2 ⟨h1, each_nil _ _ (by omega), each_nil _ _ (by omega), (limits_one h4).1, h5, each_nil _ _ (by omega)⟩
theorem limits_pos {M : MachD} (h : checkC M = 0) : 1 ≤ M.limits.length := (limits_one (checkC_iff.1 h).2.2.2.1).2
theorem limits_most {M : MachD} (h : checkC M = 0) : M.limits.length ≤ 16 := by
  have h4 := (checkC_iff.1 h).2.2.2.1
  have h5 := limits_pos h
  unfold limitsC at h4
  rw [if_neg (by omega)] at h4
  have := (eachC_all h4).1
  omega
theorem limits_near {M : MachD} (h : checkC M = 0) : ∀ x ∈ M.limits, (-60 ≤ x.r ∧ x.r ≤ 60) ∧ -60 ≤ x.z ∧ x.z ≤ 60 := by
  have h4 := (checkC_iff.1 h).2.2.2.1
  have h5 := limits_pos h
  unfold limitsC at h4
  rw [if_neg (by omega)] at h4
  intro x hx
  obtain ⟨e, he⟩ := (eachC_all h4).2 x hx
  unfold limitC at he
  split at he
  · rename_i hn
    simp only [nearB, Bool.and_eq_true, wthn_iff] at hn
    exact hn
  · simp at he
theorem bare_fit {M : MachD} {C : CurD} (h : Fit2 M C) : Fit2 (bareM M) (bareC C) :=
  ⟨bare_check h.check, h.coils, h.shells, ⟨by simp [bareC, bareM], by simp [bareC]⟩, (show tot 0 [0] ≤ 1000000 by (have e : tot 0 [0] = wrap64 (0 + 0) := rfl); rw [e, show wrap64 (0 + 0) = 0 from by go_arith]; omega)⟩
def knP (M : MachD) (C : CurD) (p : PointD) : Int := fluxP (p.r, p.z) (srcM (bareM M) (bareC C))
def wgt (M : MachD) (p : PointD) (i : Nat) : Int := infl p.r p.z (cellR M.grid (i : Int)) (cellZ M.grid (i : Int))
def cellP (M : MachD) (k : Nat) : PointD := ⟨cellR M.grid (k : Int), cellZ M.grid (k : Int)⟩
def limP (M : MachD) (k : Nat) : PointD := M.limits.getD k ⟨0, 0⟩
def ptA (M : MachD) (k : Nat) : PointD := if k < cellN M then cellP M k else limP M (k - cellN M)
def ptN (M : MachD) : Nat := cellN M + M.limits.length
def zSp : SpanD := ⟨0, 0⟩
def spA (x : List SpanD) (k : Nat) : SpanD := x.getD k zSp
def loT (M : MachD) (C : CurD) (p : PointD) (x : List SpanD) (n : Nat) : Int := knP M C p + dotTo (fun i => wgt M p i * (spA x i).lo) n
def hiT (M : MachD) (C : CurD) (p : PointD) (x : List SpanD) (n : Nat) : Int := knP M C p + dotTo (fun i => wgt M p i * (spA x i).hi) n
def flS (M : MachD) (C : CurD) (x : List SpanD) (p : PointD) : SpanD := ⟨loT M C p x (cellN M), hiT M C p x (cellN M)⟩
def topTo (f : Nat → Int) : Nat → Int
  | 0 => f 0
  | n + 1 => max (topTo f n) (f (n + 1))
def bdS (M : MachD) (C : CurD) (x : List SpanD) : SpanD := ⟨topTo (fun k => (flS M C x (limP M k)).lo) (M.limits.length - 1), topTo (fun k => (flS M C x (limP M k)).hi) (M.limits.length - 1)⟩
def exA (M : MachD) (C : CurD) (x : List SpanD) (k : Nat) : SpanD := ⟨max 0 ((flS M C x (cellP M k)).lo - (bdS M C x).hi), max 0 ((flS M C x (cellP M k)).hi - (bdS M C x).lo)⟩
def exLo (M : MachD) (C : CurD) (x : List SpanD) : Int := dotTo (fun k => (exA M C x k).lo) (cellN M)
def exHi (M : MachD) (C : CurD) (x : List SpanD) : Int := dotTo (fun k => (exA M C x k).hi) (cellN M)
def upQ (a b : Int) : Int := if 0 < a % b then a / b + 1 else a / b
def imA (M : MachD) (C : CurD) (t : Int) (x : List SpanD) (k : Nat) : SpanD :=
  ⟨t * (exA M C x k).lo / ((exA M C x k).lo + exHi M C x - (exA M C x k).hi), upQ (t * (exA M C x k).hi) ((exA M C x k).hi + exLo M C x - (exA M C x k).lo)⟩
def imL (M : MachD) (C : CurD) (t : Int) (x : List SpanD) : List SpanD := lst (cellN M) (imA M C t x)
def boxB (M : MachD) (t : Int) (x : List SpanD) : Bool := decide (checkC M = 0) && (decide (x.length = cellN M) && !(x.any fun a => decide (a.lo < 0) || (decide (a.hi < a.lo) || decide (t < a.hi))))
structure FitX (M : MachD) (t : Int) (x : List SpanD) : Prop where
  check : checkC M = 0
  len : x.length = cellN M
  each : ∀ a ∈ x, 0 ≤ a.lo ∧ a.lo ≤ a.hi ∧ a.hi ≤ t
theorem boxB_iff {M : MachD} {t : Int} {x : List SpanD} : boxB M t x = true ↔ FitX M t x := by
  unfold boxB
  simp only [Bool.and_eq_true, decide_eq_true_eq, Bool.not_eq_true', List.any_eq_false, Bool.or_eq_true, not_or, Int.not_lt]
  exact ⟨fun ⟨h1, h2, h3⟩ => ⟨h1, h2, h3⟩, fun h => ⟨h.check, h.len, h.each⟩⟩
theorem spA_get {x : List SpanD} {k : Nat} (h : k < x.length) : x[k]? = some (spA x k) := getD_get h
theorem spA_mem {x : List SpanD} {k : Nat} (h : k < x.length) : spA x k ∈ x := List.mem_of_getElem? (spA_get h)
theorem spA_of {x : List SpanD} {k : Nat} {a : SpanD} (h : x[k]? = some a) : spA x k = a := by simp [spA, List.getD_eq_getElem?_getD, h]
theorem limP_get {M : MachD} {k : Nat} (h : k < M.limits.length) : M.limits[k]? = some (limP M k) := getD_get h
theorem limP_mem {M : MachD} {k : Nat} (h : k < M.limits.length) : limP M k ∈ M.limits := List.mem_of_getElem? (limP_get h)
theorem cellN_eq {M : MachD} (h : checkC M = 0) : (cellN M : Int) = M.grid.nr * M.grid.nz ∧ 1 ≤ cellN M ∧ cellN M ≤ 64 := by
  have := cells_fine (sound_of h).grid
  unfold cellN
  omega
theorem wgt_bd (M : MachD) (p : PointD) (i : Nat) : 0 ≤ wgt M p i ∧ wgt M p i ≤ 250000 := infl_bd _ _ _ _
theorem flux_bdB (p : Int × Int) {B : Int} (hB : 0 ≤ B) : ∀ S : List Src, (∀ s ∈ S, -B ≤ s.2 ∧ s.2 ≤ B) → -((S.length : Int) * (250000 * B)) ≤ fluxP p S ∧ fluxP p S ≤ (S.length : Int) * (250000 * B)
  | [], _ => by simp [fluxP]
  | s :: r, h => by
    have h1 := flux_bdB p hB r (fun x hx => h x (List.mem_cons_of_mem _ hx))
    have h2 := h s List.mem_cons_self
    have h3 := mulP_bd (infl_bd p.1 p.2 s.1.1 s.1.2) h2
    have e : ((s :: r).length : Int) * (250000 * B) = (r.length : Int) * (250000 * B) + 250000 * B := by rw [List.length_cons, Int.natCast_succ, Int.add_mul]; omega
    rw [e]
    simp only [fluxP]
    omega
theorem len_mul {n : Nat} {m B : Int} (h : (n : Int) ≤ m) (hB : 0 ≤ B) : (n : Int) * B ≤ m * B := Int.mul_le_mul_of_nonneg_right h hB
theorem kn_bd {M : MachD} {C : CurD} (h : Fit2 M C) (p : PointD) : -304000000000000 ≤ knP M C p ∧ knP M C p ≤ 304000000000000 := by
  have hs := sound_of h.check
  have e : knP M C p = fluxP (p.r, p.z) (List.zipWith (fun c x => ((c.r, c.z), c.turns * x)) M.coils C.coils) + (fluxP (p.r, p.z) (List.zipWith (fun s x => ((s.r, s.z), x)) M.shells C.shells) + fluxP (p.r, p.z) (cellSrc ⟨0, 0, 1, 1, 1⟩ [0] 1)) := by
    unfold knP srcM srcL
    rw [fluxP_append, fluxP_append]
    rfl
  have h1 := flux_bdB (p.r, p.z) (B := 100000000) (by omega) (List.zipWith (fun (c : CoilD) x => ((c.r, c.z), c.turns * x)) M.coils C.coils) (fun s hs' => by
    obtain ⟨k, hk, e⟩ := List.mem_iff_getElem.1 hs'
    simp at e hk
    have g1 := hs.coils.2 _ (List.getElem_mem (show k < M.coils.length by omega))
    have g2 := h.coils.2 _ (List.getElem_mem (show k < C.coils.length by omega))
    have g3 := mul_bd (show 0 ≤ M.coils[k].turns by omega) g1.1.2 g2.1 g2.2
    rw [← e]; dsimp only; omega)
  have h2 := flux_bdB (p.r, p.z) (B := 1000000) (by omega) (List.zipWith (fun (s : ShellD) x => ((s.r, s.z), x)) M.shells C.shells) (fun s hs' => by
    obtain ⟨k, hk, e⟩ := List.mem_iff_getElem.1 hs'
    simp at e hk
    have g2 := h.shells.2 _ (List.getElem_mem (show k < C.shells.length by omega))
    rw [← e]; dsimp only; omega)
  have h3 := flux_bdB (p.r, p.z) (B := 0) (by omega) (cellSrc ⟨0, 0, 1, 1, 1⟩ [0] 1) (fun s hs' => by
    unfold cellSrc at hs'
    obtain ⟨k, hk, e⟩ := List.mem_map.1 hs'
    rw [List.mem_range] at hk
    have hk0 : k = 0 := by omega
    subst hk0
    rw [← e]; simp)
  have l1 : ((List.zipWith (fun (c : CoilD) (x : Int) => ((c.r, c.z), c.turns * x)) M.coils C.coils).length : Int) ≤ 12 := by have := hs.coils.1; simp; omega
  have l2 : ((List.zipWith (fun (s : ShellD) (x : Int) => ((s.r, s.z), x)) M.shells C.shells).length : Int) ≤ 16 := by have := hs.shells.1; simp; omega
  have q1 := len_mul (B := 250000 * 100000000) l1 (by omega)
  have q2 := len_mul (B := 250000 * 1000000) l2 (by omega)
  rw [e]
  omega
theorem dotTo_pos {f : Nat → Int} {B : Int} : ∀ n : Nat, (∀ k, k < n → 0 ≤ f k ∧ f k ≤ B) → 0 ≤ dotTo f n ∧ dotTo f n ≤ n * B
  | 0, _ => by simp [dotTo]
  | n + 1, h => by
    have h1 := dotTo_pos n (fun k hk => h k (by omega))
    have h2 := h n (by omega)
    have e : ((n + 1 : Nat) : Int) * B = n * B + B := by rw [Int.natCast_succ, Int.add_mul]; omega
    rw [e]
    simp only [dotTo]
    omega
theorem mulN_bd {x y X Y : Int} (hx : 0 ≤ x ∧ x ≤ X) (hy : 0 ≤ y ∧ y ≤ Y) : 0 ≤ x * y ∧ x * y ≤ X * Y :=
  ⟨Int.mul_nonneg hx.1 hy.1, Int.mul_le_mul hx.2 hy.2 hy.1 (by omega)⟩
theorem dotTo_le {f g : Nat → Int} : ∀ n : Nat, (∀ k, k < n → f k ≤ g k) → dotTo f n ≤ dotTo g n
  | 0, _ => by simp [dotTo]
  | n + 1, h => by
    have h1 := dotTo_le n (fun k hk => h k (by omega))
    have h2 := h n (by omega)
    simp only [dotTo]
    omega
theorem wl_bd {M : MachD} {t : Int} {x : List SpanD} (hx : FitX M t x) (ht : t ≤ 1000000) (p : PointD) {k : Nat} (hk : k < cellN M) : (0 ≤ wgt M p k * (spA x k).lo ∧ wgt M p k * (spA x k).lo ≤ 250000000000) ∧ (0 ≤ wgt M p k * (spA x k).hi ∧ wgt M p k * (spA x k).hi ≤ 250000000000) ∧ wgt M p k * (spA x k).lo ≤ wgt M p k * (spA x k).hi := by
  have h1 := hx.each _ (spA_mem (x := x) (k := k) (by rw [hx.len]; exact hk))
  have h2 := wgt_bd M p k
  exact ⟨mulN_bd h2 (Y := 1000000) (by omega), mulN_bd h2 (Y := 1000000) (by omega), Int.mul_le_mul_of_nonneg_left h1.2.1 h2.1⟩
theorem part_bd {M : MachD} {C : CurD} {t : Int} {x : List SpanD} (hf : Fit2 M C) (hx : FitX M t x) (ht : t ≤ 1000000) (p : PointD) {n : Nat} (hn : n ≤ cellN M) : -320000000000000 ≤ loT M C p x n ∧ loT M C p x n ≤ hiT M C p x n ∧ hiT M C p x n ≤ 320000000000000 := by
  have h0 := kn_bd hf p
  have h1 := dotTo_pos (f := fun i => wgt M p i * (spA x i).lo) (B := 250000000000) n (fun k hk => (wl_bd hx ht p (by omega)).1)
  have h2 := dotTo_pos (f := fun i => wgt M p i * (spA x i).hi) (B := 250000000000) n (fun k hk => (wl_bd hx ht p (by omega)).2.1)
  have h3 := dotTo_le (f := fun i => wgt M p i * (spA x i).lo) (g := fun i => wgt M p i * (spA x i).hi) n (fun k hk => (wl_bd hx ht p (by omega)).2.2)
  have h4 := cellN_eq hf.check
  have h5 := len_mul (n := n) (m := 64) (B := 250000000000) (by omega) (by omega)
  unfold loT hiT
  omega
theorem flS_bd {M : MachD} {C : CurD} {t : Int} {x : List SpanD} (hf : Fit2 M C) (hx : FitX M t x) (ht : t ≤ 1000000) (p : PointD) : -320000000000000 ≤ (flS M C x p).lo ∧ (flS M C x p).lo ≤ (flS M C x p).hi ∧ (flS M C x p).hi ≤ 320000000000000 := part_bd hf hx ht p (Nat.le_refl _)
theorem topTo_bd {f : Nat → Int} {A B : Int} : ∀ n : Nat, (∀ k, k ≤ n → A ≤ f k ∧ f k ≤ B) → A ≤ topTo f n ∧ topTo f n ≤ B
  | 0, h => h 0 (Nat.le_refl _)
  | n + 1, h => by
    have h1 := topTo_bd n (fun k hk => h k (by omega))
    have h2 := h (n + 1) (Nat.le_refl _)
    simp only [topTo]
    omega
theorem topTo_le {f g : Nat → Int} : ∀ n : Nat, (∀ k, k ≤ n → f k ≤ g k) → topTo f n ≤ topTo g n
  | 0, h => h 0 (Nat.le_refl _)
  | n + 1, h => by
    have h1 := topTo_le n (fun k hk => h k (by omega))
    have h2 := h (n + 1) (Nat.le_refl _)
    simp only [topTo]
    omega
theorem bdS_bd {M : MachD} {C : CurD} {t : Int} {x : List SpanD} (hf : Fit2 M C) (hx : FitX M t x) (ht : t ≤ 1000000) : -320000000000000 ≤ (bdS M C x).lo ∧ (bdS M C x).lo ≤ (bdS M C x).hi ∧ (bdS M C x).hi ≤ 320000000000000 := by
  have h1 := topTo_bd (f := fun k => (flS M C x (limP M k)).lo) (A := -320000000000000) (B := 320000000000000) (M.limits.length - 1) (fun k _ => by have := flS_bd hf hx ht (limP M k); omega)
  have h2 := topTo_bd (f := fun k => (flS M C x (limP M k)).hi) (A := -320000000000000) (B := 320000000000000) (M.limits.length - 1) (fun k _ => by have := flS_bd hf hx ht (limP M k); omega)
  exact ⟨h1.1, topTo_le _ (fun k _ => (flS_bd hf hx ht (limP M k)).2.1), h2.2⟩
theorem exA_bd {M : MachD} {C : CurD} {t : Int} {x : List SpanD} (hf : Fit2 M C) (hx : FitX M t x) (ht : t ≤ 1000000) (k : Nat) : 0 ≤ (exA M C x k).lo ∧ (exA M C x k).lo ≤ (exA M C x k).hi ∧ (exA M C x k).hi ≤ 640000000000000 := by
  have h1 := flS_bd hf hx ht (cellP M k)
  have h2 := bdS_bd hf hx ht
  unfold exA
  dsimp only
  omega
theorem exS_bd {M : MachD} {C : CurD} {t : Int} {x : List SpanD} (hf : Fit2 M C) (hx : FitX M t x) (ht : t ≤ 1000000) {n : Nat} (hn : n ≤ cellN M) : 0 ≤ dotTo (fun k => (exA M C x k).lo) n ∧ dotTo (fun k => (exA M C x k).lo) n ≤ dotTo (fun k => (exA M C x k).hi) n ∧ dotTo (fun k => (exA M C x k).hi) n ≤ 40960000000000000 := by
  have h1 := dotTo_pos (f := fun k => (exA M C x k).lo) (B := 640000000000000) n (fun k _ => by have := exA_bd hf hx ht k; omega)
  have h2 := dotTo_pos (f := fun k => (exA M C x k).hi) (B := 640000000000000) n (fun k _ => by have := exA_bd hf hx ht k; omega)
  have h3 := dotTo_le (f := fun k => (exA M C x k).lo) (g := fun k => (exA M C x k).hi) n (fun k _ => (exA_bd hf hx ht k).2.1)
  have h4 := cellN_eq hf.check
  have h5 := len_mul (n := n) (m := 64) (B := 640000000000000) (by omega) (by omega)
  omega
theorem dotTo_one {f : Nat → Int} : ∀ n k : Nat, k < n → (∀ j, j < n → 0 ≤ f j) → f k ≤ dotTo f n
  | 0, k, h, _ => absurd h (by omega)
  | n + 1, k, h, h0 => by
    have h2 := h0 n (by omega)
    simp only [dotTo]
    rcases Nat.lt_or_ge k n with g | g
    · have := dotTo_one n k g (fun j hj => h0 j (by omega)); omega
    · have : k = n := by omega
      subst this
      have : 0 ≤ dotTo f k := by
        clear h h2 g
        have : ∀ m, m ≤ k + 1 → 0 ≤ dotTo f m := fun m => by
          induction m with
          | zero => intro _; simp [dotTo]
          | succ m ih => intro hm; have := ih (by omega); have := h0 m (by omega); simp only [dotTo]; omega
        exact this k (by omega)
      omega
end
section
set_option autoImplicit false
open Go.RowKit
abbrev Gr := Option (Nat × Nat × List Value)
def gA (o : Gr) : Option Addr := match o with | none => none | some (b, _, _) => some ⟨b, 0, none⟩
def gC (o : Gr) : Nat := match o with | none => 0 | some (_, c, _) => c
def gt (o : Gr) (cs : List Value) : Boxes := match o with | none => [] | some (b, _, sp) => [(b, .cells (cs ++ sp))]
structure gok (o : Gr) (n z : Nat) (cs : List Value) : Prop where
  len : cs.length = n * z
  nil : o = none → n = 0
  own : ∀ b c sp, o = some (b, c, sp) → n ≤ c ∧ c ≤ 9223372036854775807 ∧ sp.length = (c - n) * z
theorem gok.none (z : Nat) : gok none 0 z [] := ⟨by simp, fun _ => rfl, fun _ _ _ h => by cases h⟩
theorem gok.some {o : Gr} {n z : Nat} {cs : List Value} (h : gok o n z cs) (h0 : 0 < n) : ∃ b c sp, o = some (b, c, sp) := by
  rcases o with _ | ⟨b, c, sp⟩
  · have := h.nil rfl; omega
  · exact ⟨b, c, sp, rfl⟩
theorem gok.le {o : Gr} {n z : Nat} {cs : List Value} (h : gok o n z cs) : n ≤ gC o ∧ gC o ≤ 9223372036854775807 := by
  rcases o with _ | ⟨b, c, sp⟩
  · have := h.nil rfl; exact ⟨by simp [gC, this], by simp [gC]⟩
  · have := h.own b c sp rfl; exact ⟨this.1, this.2.1⟩
inductive Tl : Boxes → Boxes → Boxes → Prop
  | z {G : Boxes} : Tl [] G G
  | s {x : Nat × Cont} {L1 G L : Boxes} (h : Tl L1 G L) : Tl (x :: L1) G (x :: L)
theorem Tl.eq {L1 G L : Boxes} (h : Tl L1 G L) : L = L1 ++ G := by
  induction h with
  | z => rfl
  | s _ ih => rw [ih]; rfl
theorem apart_pair {L : Boxes} : (∀ (i j b : Nat) (cs cs' : Cont), L[i]? = some (b, cs) → L[j]? = some (b, cs') → i = j) ↔ L.Pairwise (fun x y => x.1 ≠ y.1) := by
  rw [List.pairwise_iff_getElem]
  constructor
  · intro h i j hi hj hij he
    have h1 : L[i]? = some (L[i].1, L[i].2) := List.getElem?_eq_getElem hi
    have h2 : L[j]? = some (L[i].1, L[j].2) := by rw [List.getElem?_eq_getElem hj, he]
    have := h i j _ _ _ h1 h2
    omega
  · intro h i j b cs cs' hi hj
    obtain ⟨li, ei⟩ := List.getElem?_eq_some_iff.1 hi
    obtain ⟨lj, ej⟩ := List.getElem?_eq_some_iff.1 hj
    rcases Nat.lt_trichotomy i j with g | g | g
    · exact absurd (by rw [ei, ej]) (h i j li lj g)
    · exact g
    · exact absurd (by rw [ei, ej]) (h j i lj li g)
theorem Sta.perm {E : Cfg} {U : Snaps} {L L' : Boxes} {w : World} (h : Sta E U L w) (hp : L.Perm L') : Sta E U L' w := by
  have mem : ∀ (i b : Nat) (cs : Cont), L'[i]? = some (b, cs) → ∃ j, L[j]? = some (b, cs) := fun i b cs hi => by
    have := hp.mem_iff.2 (List.mem_of_getElem? hi)
    exact List.getElem?_of_mem this
  refine ⟨h.chg, fun i b cs hi => ?_, ?_, fun lo u hu => ?_⟩
  · obtain ⟨j, hj⟩ := mem i b cs hi; exact h.box j b cs hj
  · have h1 := apart_pair.1 h.apart
    exact apart_pair.2 ((hp.pairwise_iff (fun {x y} hxy => Ne.symm hxy)).1 h1)
  · obtain ⟨a, b, c, d, e, f⟩ := h.snap lo u hu
    exact ⟨a, b, c, d, e, fun i b cs hi => by obtain ⟨j, hj⟩ := mem i b cs hi; exact f j b cs hj⟩
theorem Sta.front {E : Cfg} {U : Snaps} {L L1 G : Boxes} {w : World} (h : Sta E U L w) (hT : Tl L1 G L) : Sta E U L1 w := by
  have hL := hT.eq
  have up : ∀ (i b : Nat) (cs : Cont), L1[i]? = some (b, cs) → L[i]? = some (b, cs) := fun i b cs hi => by
    rw [hL, List.getElem?_append_left (List.getElem?_eq_some_iff.1 hi).1]; exact hi
  exact ⟨h.chg, fun i b cs hi => h.box i b cs (up i b cs hi), fun i j b cs cs' hi hj => h.apart i j b cs cs' (up i b cs hi) (up j b cs' hj), fun lo u hu => by
    obtain ⟨a, b, c, d, e, f⟩ := h.snap lo u hu
    exact ⟨a, b, c, d, e, fun i b cs hi => f i b cs (up i b cs hi)⟩⟩
theorem ac_drawF {P : Program} {e0 : Cfg} {U : Snaps} {l : Slots} {L L1 G : Boxes} {Q : Exit → Act → World → Prop} {id : Nat} {os : List Oper} (last : Nat) (hT : Tl L1 G L) (hm : P.follows .mixedOrders = true) (hok : lastOk os.toArray last = true) (k : AH P os.toArray Q U L1 last os.toArray.size (Array.replicate os.toArray.size false) e0 U l L) : AC P e0 U l L (.region id os.toArray true) Q :=
  fun a w hf hs => wp_region_any hm (wpAny_of_G _ _ _ _ (k hok (DrawnTo.start _ _) a _ hf hs.drew))
section
variable {P : Program} {e0 : Cfg} {U : Snaps} {l : Slots} {L : Boxes} {ops : Array Oper} {Q : Exit → Act → World → Prop} {rest : List Oper} {d : Nat} {v : Value}
variable {ty : TypeId} {pos : String} {af : Array Edge} {g : Option (Nat × Bool)} {dd : Option Nat}
structure Sor (e0 : Cfg) (U : Snaps) (L : Boxes) (z : Nat) (y : Value) (m : Nat) (vs : List Value) : Prop where
  len : vs.length = m * z
  one : vs.all (fun u => u.oneCell') = true
  val : ∃ (yA : Option Addr) (c : Nat), y = .slice yA m c ∧ ∀ w, Sta e0 U L w → 0 < m → ∃ A, yA = some A ∧ ∀ j u, vs[j]? = some u → w.cell? (A.add j) = some u
theorem Sor.box {z m c j bs : Nat} {vs : List Value} (hj : L[j]? = some (bs, .cells vs)) (hl : vs.length = m * z) (h1 : vs.all (fun u => u.oneCell') = true) : Sor e0 U L z (.slice (some ⟨bs, 0, none⟩) m c) m vs :=
  ⟨hl, h1, _, _, rfl, fun w hs _ => ⟨_, rfl, fun i u hu => by rw [addr_add, Nat.zero_add]; exact hs.cell hj hu⟩⟩
theorem Sor.list {α : Type} {z m c : Nat} {A : Option Addr} {enc : α → List Value} {zs : List α} (hlen : ∀ x, (enc x).length = z) (h1 : ∀ x, (enc x).all (fun u => u.oneCell') = true) (hz : zs.length = m) (h : ∀ w, Sta e0 U L w → IsT z enc w A m zs) :
    Sor e0 U L z (.slice A m c) m (zs.flatMap enc) := by
  refine ⟨?_, ?_, _, _, rfl, fun w hs h0 => ?_⟩
  · subst hz
    clear h
    induction zs with
    | nil => simp
    | cons x r ih => rw [List.flatMap_cons, List.length_append, hlen, ih, List.length_cons, Nat.add_mul]; omega
  · clear h hz
    induction zs with
    | nil => rfl
    | cons x r ih => rw [List.flatMap_cons, List.all_append, h1, ih]; rfl
  · obtain ⟨b, o, e, h2, h3⟩ := (h w hs).2 h0
    refine ⟨_, e, fun j u hu => ?_⟩
    rw [addr_add]
    have key : ∀ (ys : List α) (k j : Nat) (u : Value), (ys.flatMap enc)[j]? = some u → (∀ i x, ys[i]? = some x → zs[k + i]? = some x) → w.cell? ⟨b, o + (k * z + j), none⟩ = some u := by
      intro ys
      induction ys with
      | nil => intro k j u hu _; simp at hu
      | cons y r ih =>
        intro k j u hu hk
        rw [List.flatMap_cons] at hu
        rcases Nat.lt_or_ge j z with g | g
        · rw [List.getElem?_append_left (by rw [hlen]; exact g)] at hu
          have := h3 k y (hk 0 y rfl) j u hu
          rw [← Nat.add_assoc]; exact this
        · rw [List.getElem?_append_right (by rw [hlen]; exact g), hlen] at hu
          have := ih (k + 1) (j - z) u hu (fun i x hx => by rw [Nat.add_assoc, Nat.add_comm 1 i]; exact hk (i + 1) x hx)
          rw [Nat.add_mul] at this
          rw [show k * z + j = k * z + 1 * z + (j - z) by omega]; exact this
    have := key zs 0 j u hu (fun i x hx => by simpa using hx)
    simpa using this
theorem al_grow {t e z bytes n m : Nat} {zv : Value} {o : Gr} {cs vs : List Value} {L1 G : Boxes} {y : Value} {ox oy : Operand} (hx : E l ox = some (.slice (gA o) n (gC o))) (hy : E l oy = some y) (hT : Tl L1 (gt o cs ++ G) L) (hg : gok o n z cs) (hs : Sor e0 U L z y m vs)
    (hu : P.underlying t = some (.slice e)) (hinfo : (P.info? e).map (fun i => (i.zero, i.size, i.bytes)) = some (some zv, z, bytes)) (hzv : zv.cells.size = z) (hm : n + m ≤ 1000000) (hb : bytes ≤ 10000)
    (hn : Nat.blt d e0.n = true) (hw : want ops l g = some true)
    (k : ∀ o', gok o' (n + m) z (cs ++ vs) → ∃ L', Tl L1 (gt o' (cs ++ vs) ++ G) L' ∧ AL P ops Q e0 U ((d, .slice (gA o') (n + m) (gC o')) :: l) L' rest) :
    AL P ops Q e0 U l L (⟨some d, .call ⟨.builtin .append, #[ox, oy], #[t, t]⟩, ty, pos, af, g⟩ :: rest) :=
  al_run2 (K := True) hw rfl hn (fun a w hf hst => by
    obtain ⟨hl, h1, yA, c, rfl, hc⟩ := hs
    rcases Nat.eq_zero_or_pos m with h0 | h0
    · subst h0
      have hv : vs = [] := List.length_eq_zero_iff.1 (by simpa using hl)
      subst hv
      obtain ⟨ti, hti, hz, rfl, rfl⟩ := info_split hinfo
      have hsrc : Go.Src P ti.size t (.slice yA 0 c) 0 [] w := by
        cases yA with
        | none => exact Go.Src.ofNil w hu c
        | some A => exact Go.Src.ofSlice w hu A 0 c [] (by simp) (fun j u h => by simp at h) (fun u h => by cases h)
      have hr := run_append_nothing (P := P) w t t ty e ti hu hti (gA o) n (gC o) hg.le.1 _ hsrc
      obtain ⟨L', hL', hk⟩ := k o (by simpa using hg)
      have e1 : L' = L := by rw [hL'.eq, hT.eq]; simp
      exact ⟨_, w, U, L', ex_append (hf.ev hx) (hf.ev hy) hr, by rw [e1]; exact hst, hk⟩
    · obtain ⟨A, rfl, hA⟩ := hc w hst h0
      rcases o with _ | ⟨b, cap, sp⟩
      · have hn0 := hg.nil rfl
        subst hn0
        have hcs : cs = [] := List.length_eq_zero_iff.1 (by simpa using hg.len)
        subst hcs
        have eL : L = L1 ++ G := by rw [hT.eq]; simp [gt]
        obtain ⟨b', cap', sp', w', hr, h2, h3, h4, hst'⟩ := run_appendNil (A := A) (c := c) ty hu hinfo hzv hst hl hA h0 (by omega) hb
        obtain ⟨L', hL', hk⟩ := k (some (b', cap', sp')) ⟨by simpa using hl, fun e => by (cases e), fun b c sp e => by cases e; rw [Nat.zero_add]; exact ⟨h2, h3, h4⟩⟩
        have e1 : ((0 : Nat) + m) = m := Nat.zero_add m
        rw [e1] at hk
        refine ⟨_, w', U, L', ex_append (hf.ev hx) (hf.ev hy) hr, ?_, hk⟩
        rw [hL'.eq]
        refine hst'.perm ?_
        rw [eL]
        show ((b', Cont.cells (vs ++ sp')) :: (L1 ++ G)).Perm (L1 ++ ((b', Cont.cells ([] ++ vs ++ sp')) :: G))
        rw [List.nil_append]
        exact List.perm_middle.symm
      · obtain ⟨g1, g2, g3⟩ := hg.own b cap sp rfl
        have hL := hT.eq
        have hi : L[L1.length]? = some (b, .cells (cs ++ sp)) := by rw [hL]; simp [gt]
        obtain ⟨b', cap', sp', w', hr, h2, h3, h4, hst'⟩ := run_appendBox (A := A) (c := c) ty hu hinfo hzv hst hi hg.len g3 g1 g2 hl hA (by simpa using h1) hm hb
        obtain ⟨L', hL', hk⟩ := k (some (b', cap', sp')) ⟨by rw [List.length_append, hg.len, hl, Nat.add_mul], fun e => by (cases e), fun b c sp e => by cases e; exact ⟨h2, h3, h4⟩⟩
        refine ⟨_, w', U, L', ex_append (hf.ev hx) (hf.ev hy) hr, ?_, hk⟩
        rw [hL'.eq]
        have e2 : L.set L1.length (b', .cells ((cs ++ vs) ++ sp')) = L1 ++ (gt (some (b', cap', sp')) (cs ++ vs) ++ G) := by
          rw [hL, List.set_append_right _ _ (Nat.le_refl _)]; simp [gt]
        rw [← e2]; exact hst')
theorem al_appendS {t e z bytes m nn cap i b : Nat} {zv : Value} {vs xs sp : List Value} {y : Value} {ox oy : Operand} (hx : E l ox = some (.slice (some ⟨b, 0, none⟩) nn cap)) (hi : L[i]? = some (b, .cells (xs ++ sp))) (hxs : xs.length = nn * z) (hsp : sp.length = (cap - nn) * z) (hcap : nn ≤ cap) (hcm : cap ≤ 9223372036854775807)
    (hy : E l oy = some y) (hs : Sor e0 U L z y m vs)
    (hu : P.underlying t = some (.slice e)) (hinfo : (P.info? e).map (fun i => (i.zero, i.size, i.bytes)) = some (some zv, z, bytes)) (hzv : zv.cells.size = z) (hm : nn + m ≤ 1000000) (hb : bytes ≤ 10000)
    (hn : Nat.blt d e0.n = true) (hw : want ops l g = some true)
    (k : ∀ b' cap' sp', nn + m ≤ cap' → cap' ≤ 9223372036854775807 → sp'.length = (cap' - (nn + m)) * z → ∃ L', SetAt i (b', .cells ((xs ++ vs) ++ sp')) L L' ∧ AL P ops Q e0 U ((d, .slice (some ⟨b', 0, none⟩) (nn + m) cap') :: l) L' rest) :
    AL P ops Q e0 U l L (⟨some d, .call ⟨.builtin .append, #[ox, oy], #[t, t]⟩, ty, pos, af, g⟩ :: rest) :=
  al_run2 (K := True) hw rfl hn (fun a w hf hst => by
    obtain ⟨hl, h1, yA, c, rfl, hc⟩ := hs
    rcases Nat.eq_zero_or_pos m with h0 | h0
    · subst h0
      have hv : vs = [] := List.length_eq_zero_iff.1 (by simpa using hl)
      subst hv
      obtain ⟨ti, hti, hz, rfl, rfl⟩ := info_split hinfo
      have hsrc : Go.Src P ti.size t (.slice yA 0 c) 0 [] w := by
        cases yA with
        | none => exact Go.Src.ofNil w hu c
        | some A => exact Go.Src.ofSlice w hu A 0 c [] (by simp) (fun j u h => by simp at h) (fun u h => by cases h)
      have hr := run_append_nothing (P := P) w t t ty e ti hu hti (some ⟨b, 0, none⟩) nn cap hcap _ hsrc
      obtain ⟨L', hL', hk⟩ := k b cap sp hcap hcm hsp
      have e1 : L' = L := by
        rw [hL'.eq, List.append_nil]
        apply List.ext_getElem?
        intro j
        by_cases hj : i = j
        · subst hj
          rw [List.getElem?_set_self (List.getElem?_eq_some_iff.1 hi).1, hi]
        · rw [List.getElem?_set_ne hj]
      exact ⟨_, w, U, L', ex_append (hf.ev hx) (hf.ev hy) hr, by rw [e1]; exact hst, hk⟩
    · obtain ⟨A, rfl, hA⟩ := hc w hst h0
      obtain ⟨b', cap', sp', w', hr, h2, h3, h4, hst'⟩ := run_appendBox (A := A) (c := c) ty hu hinfo hzv hst hi hxs hsp hcap hcm hl hA (by simpa using h1) hm hb
      obtain ⟨L', hL, hk⟩ := k b' cap' sp' h2 h3 h4
      exact ⟨_, w', U, L', ex_append (hf.ev hx) (hf.ev hy) hr, by rw [hL.eq]; exact hst', hk⟩)
theorem aq_sub {V : Snaps} {S : Slots} {M : Boxes} {X : Act → World → Prop} (h : AQ e0 V S M X) (hl : AllLook l S) (hL : ∀ w, Sta e0 U L w → Sta e0 V M w) : AQ e0 U l L X := fun a w hf hs => h a w (hf.sub hl.sub) (hL w hs)
theorem ac_cut {β : Type} {c1 c2 : Code} (F : β → Prop) (S : β → Slots) (V : β → Snaps) (M : β → Boxes → Boxes)
    (h1 : ∀ X : Act → World → Prop, (∀ y, F y → AQ e0 (V y) (S y) (M y L) X) → AC P e0 U l L c1 (Exit.then X Q)) (h2 : ∀ y, F y → AC P e0 (V y) (S y) (M y L) c2 Q) : AC P e0 U l L (.seq c1 c2) Q := ac_seq (h1 _ h2)
end
structure NewT {α : Type} (z : Nat) (enc : α → List Value) (B : Nat) (w : World) (A : Option Addr) (n c : Nat) (zs : List α) : Prop where
  isT : IsT z enc w A n zs
  new : ∀ b off, A = some ⟨b, off, none⟩ → B ≤ b
  le : n ≤ c ∧ c ≤ 9223372036854775807
theorem Sta.grown {α : Type} {z n N : Nat} {D : List Deferred} {enc : α → List Value} (hlen : ∀ x, (enc x).length = z) {w0 w : World} {U : Snaps} {L : Boxes} {o : Gr} {cs : List Value} {zs : List α} (h : Sta ⟨N, D, w0, []⟩ U L w) (hT : ∀ x ∈ gt o cs, x ∈ L) (hg : gok o n z cs)
    (hz : zs.flatMap enc = cs) (hn : zs.length = n) : NewT z enc w0.heap.size w (gA o) n (gC o) zs := by
  refine ⟨?_, fun b off e => ?_, hg.le⟩
  · rcases o with _ | ⟨b, c, sp⟩
    · have := hg.nil rfl
      exact ⟨hn, fun h0 => by omega⟩
    · obtain ⟨i, hi⟩ := List.getElem?_of_mem (hT (b, .cells (cs ++ sp)) (by simp [gt]))
      exact isT_box hlen (h.at _ hi) hz hn
  · rcases o with _ | ⟨b', c, sp⟩
    · cases e
    · obtain ⟨i, hi⟩ := List.getElem?_of_mem (hT (b', .cells (cs ++ sp)) (by simp [gt]))
      have := (h.box _ _ _ hi).1
      cases e
      rcases this with g | g
      · exact g
      · cases g
theorem flat_int : ∀ l : List Int, l.flatMap intCells = l.map (Value.int .i64)
  | [] => rfl
  | x :: l => by rw [List.flatMap_cons, flat_int l]; rfl
theorem Sta.newT {α : Type} {z n c : Nat} {enc : α → List Value} {E : Cfg} {U : Snaps} {L : Boxes} {w u : World} {lo : Nat} {A : Option Addr} {zs : List α} (h : Sta E U L w) (hu : (lo, u) ∈ U) (hN : NewT z enc lo u A n c zs) : IsT z enc w A n zs :=
  h.isT hu hN.isT fun b o e => Or.inl (hN.new b o e)
end
section
set_option autoImplicit false
open Go.RowKit
inductive Ins (x : Nat × Cont) : Boxes → Boxes → Prop
  | here {L : Boxes} : Ins x L (x :: L)
  | there {y : Nat × Cont} {L L' : Boxes} (h : Ins x L L') : Ins x (y :: L) (y :: L')
theorem Ins.perm {x : Nat × Cont} {L L' : Boxes} (h : Ins x L L') : L'.Perm (x :: L) := by
  induction h with
  | here => exact List.Perm.refl _
  | there h ih => exact (List.Perm.cons _ ih).trans (List.Perm.swap _ _ _)
inductive Pm : Boxes → Boxes → Prop
  | refl {L : Boxes} : Pm L L
  | cons {x : Nat × Cont} {M L L' : Boxes} (h : Ins x L L') (t : Pm M L) : Pm (x :: M) L'
theorem Pm.perm {M L : Boxes} (h : Pm M L) : L.Perm M := by
  induction h with
  | refl => exact List.Perm.refl _
  | cons h t ih => exact h.perm.trans (List.Perm.cons _ ih)
theorem Sta.pm {E : Cfg} {U : Snaps} {L M : Boxes} {w : World} (h : Sta E U L w) (hp : Pm M L) : Sta E U M w := h.perm hp.perm
section
variable {P : Program} {e0 : Cfg} {U : Snaps} {l : Slots} {L : Boxes} {ops : Array Oper} {Q : Exit → Act → World → Prop} {U0 : Snaps} {L0 : Boxes} {last fuel : Nat} {listed : Array Bool}
theorem ah_share {fuel' : Nat} {listed' : Array Bool} (K : (Slots → Boxes → Prop) → Prop) (h1 : K (fun l' L' => AH P ops Q U0 L0 last fuel' listed' e0 U l' L'))
    (h2 : K (fun l' L' => AH P ops Q U0 L0 last fuel' listed' e0 U l' L') → AH P ops Q U0 L0 last fuel listed e0 U l L) : AH P ops Q U0 L0 last fuel listed e0 U l L := h2 h1
theorem ah_to {fuel' : Nat} {listed' : Array Bool} {l' : Slots} {L' : Boxes} (h : AH P ops Q U0 L0 last fuel' listed' e0 U l' L') (hf : fuel' = fuel) (he : listed' = listed) (hl : AllLook l l') (hL : ∀ w, Sta e0 U L w → Sta e0 U L' w) : AH P ops Q U0 L0 last fuel listed e0 U l L := by
  subst hf; subst he
  exact fun hok hc => aq_sub (h hok hc) hl hL
end
end
end Go.Proofs.YtogcjgjhmlifgaaGreat
