import Derived.Test.YtogcjgjhmlifgaaGreatOAM
import Derived.Test.YtogcjgjhmlifgaaGreatOAV
import Derived.Test.YtogcjgjhmlifgaaGreatRows
import Derived.KernelRfl
import Derived.Laws.StructEq
namespace Go.Proofs.YtogcjgjhmlifgaaGreat
set_option linter.unusedVariables false
set_option linter.unusedSimpArgs false
section
set_option autoImplicit false
open Go.RowKit
structure Chn where
  (ia ib t : Nat) (z f : List Value)
abbrev Ph := Option (Nat × Bool)
def Chn.box (c : Chn) : Ph → Boxes
  | none => []
  | some (b, false) => [(b, .cells c.z)]
  | some (b, true) => [(b, .cells c.f)]
abbrev Phs := List (Chn × Ph)
def Apt (c d : Chn) : Prop := c.ia ≠ d.ia ∧ c.ia ≠ d.ib ∧ c.ib ≠ d.ia ∧ c.ib ≠ d.ib ∧ c.t ≠ d.t
theorem Apt.symm {c d : Chn} (h : Apt c d) : Apt d c := ⟨h.1.symm, h.2.2.1.symm, h.2.1.symm, h.2.2.2.1.symm, h.2.2.2.2.symm⟩
section
variable {P : Program} {e0 : Cfg} {U : Snaps} {ops : Array Oper} {Q : Exit → Act → World → Prop} {l0 : Slots} {L0 : Boxes}
def waits (ops : Array Oper) (listed : Array Bool) (j : Nat) (k : Option Nat) : Bool := match ops[j]? with
  | some o => o.after.all fun e => !Region.binds .any e || listed.getD e.on false || k == some e.on
  | none => false
structure Lis (ops : Array Oper) (base listed : Array Bool) (s : Phs) : Prop where
  size : listed.size = ops.size
  base : ∀ j, base.getD j false = true → listed.getD j false = true
  ch : ∀ x ∈ s, listed.getD x.1.ia false = x.2.isSome ∧ listed.getD x.1.ib false = (match x.2 with | some (_, true) => true | _ => false)
  rest : ∀ j, j < ops.size → (∀ x ∈ s, j ≠ x.1.ia ∧ j ≠ x.1.ib) → listed.getD j false = true
theorem getD_put {listed : Array Bool} {i j : Nat} : (listed.setIfInBounds i true).getD j false = if i = j ∧ i < listed.size then true else listed.getD j false := by
  simp only [Array.getD_eq_getD_getElem?, Array.getElem?_setIfInBounds]
  by_cases h : i = j
  · subst h
    by_cases g : i < listed.size
    · simp [g]
    · simp [g]
  · simp [h]
theorem Lis.put {base listed : Array Bool} {S1 S2 : Phs} {c : Chn} {p q : Ph} {i : Nat} (h : Lis ops base listed (S1 ++ (c, p) :: S2)) (hi : i < ops.size) (hap : ∀ x, x ∈ S1 ∨ x ∈ S2 → Apt c x.1) (hne : c.ia ≠ c.ib)
    (hq : (i = c.ia ∧ p = none ∧ ∃ b, q = some (b, false)) ∨ (i = c.ib ∧ ∃ b, p = some (b, false) ∧ q = some (b, true))) : Lis ops base (listed.setIfInBounds i true) (S1 ++ (c, q) :: S2) := by
  have hsz := h.size
  have mem : ∀ x, x ∈ S1 ∨ x ∈ S2 → x ∈ S1 ++ (c, p) :: S2 := fun x hx => by simp only [List.mem_append, List.mem_cons]; rcases hx with g | g <;> simp [g]
  refine ⟨by simp [hsz], fun j hj => by rw [getD_put]; split; rfl; exact h.base j hj, fun x hx => ?_, fun j hj hall => ?_⟩
  · have hx' : x = (c, q) ∨ (x ∈ S1 ∨ x ∈ S2) := by simp only [List.mem_append, List.mem_cons] at hx; rcases hx with g | g | g <;> simp [g]
    rcases hx' with rfl | hx'
    · have hc := h.ch (c, p) (by simp)
      simp only at hc ⊢
      rcases hq with ⟨rfl, rfl, b, rfl⟩ | ⟨rfl, b, rfl, rfl⟩
      · rw [getD_put, getD_put, if_pos ⟨rfl, by omega⟩, if_neg (fun g => hne g.1)]
        exact ⟨rfl, hc.2⟩
      · rw [getD_put, getD_put, if_neg (fun g => hne g.1.symm), if_pos ⟨rfl, by omega⟩]
        exact ⟨hc.1, rfl⟩
    · have ha := hap x hx'
      have hc := h.ch x (mem x hx')
      rw [getD_put, getD_put]
      rcases hq with ⟨rfl, -, -⟩ | ⟨rfl, -, -⟩
      · rw [if_neg (fun g => ha.1 g.1), if_neg (fun g => ha.2.1 g.1)]; exact hc
      · rw [if_neg (fun g => ha.2.2.1 g.1), if_neg (fun g => ha.2.2.2.1 g.1)]; exact hc
  · rw [getD_put]
    split
    · rfl
    · refine h.rest j hj fun x hx => ?_
      have hx' : x = (c, p) ∨ (x ∈ S1 ∨ x ∈ S2) := by simp only [List.mem_append, List.mem_cons] at hx; rcases hx with g | g | g <;> simp [g]
      rcases hx' with rfl | hx'
      · exact hall (c, q) (by simp)
      · exact hall x (by simp only [List.mem_append, List.mem_cons]; rcases hx' with g | g <;> simp [g])
theorem q_fromA {t e z b o len cap lo : Nat} {ii : Int} {k : IntKind} {A : Option Addr} {ox oi : Operand} {ty : TypeId} {pos : String} {af : Array Edge} {g : Option (Nat × Bool)} {dd : Option Nat} {l : Slots} {L : Boxes} (hA : A = some ⟨b, o, none⟩) (hx : E l ox = some (.slice A len cap)) (hi : E l oi = some (.int k ii)) (hii : ii = (lo : Int)) (hlo : lo ≤ len) (hcap : len ≤ cap) (hlt : lo < cap) (hu : P.underlying t = some (.slice e)) (hz : ∀ w, (sizeOf e).run P w = .ok z w) :
    Q1 P e0 U l L ⟨dd, .slice t ox (some oi) none none, ty, pos, af, g⟩ (.slice (some ⟨b, o + lo * z, none⟩) (len - lo) (cap - lo)) := by
  subst hA
  exact q_fromS hx hi hii hlo hcap hu hz (if_neg (by omega))
theorem IsT.drop {α : Type} {n : Nat} {enc : α → List Value} {w : World} {b o len : Nat} {zs : List α} (h : IsT n enc w (some ⟨b, o, none⟩) len zs) (k : Nat) : IsT n enc w (some ⟨b, o + k * n, none⟩) (len - k) (zs.drop k) :=
  ⟨by rw [List.length_drop, h.1], fun h0 => by
    obtain ⟨b', o', e, h1, h2⟩ := h.2 (by omega)
    cases e
    refine ⟨b, o + k * n, rfl, h1, fun j x hx i v hv => ?_⟩
    rw [List.getElem?_drop] at hx
    have := h2 (k + j) x hx i v hv
    rwa [Nat.add_mul, ← Nat.add_assoc] at this⟩
end
end
section
set_option autoImplicit false
open Go.RowKit
section
variable {P : Program} {e0 : Cfg} {U : Snaps} {l : Slots} {L : Boxes} {ops : Array Oper} {Q : Exit → Act → World → Prop} {rest : List Oper} {d : Nat}
variable {ty : TypeId} {pos : String} {af : Array Edge} {g : Option (Nat × Bool)} {dd : Option Nat}
theorem IsT.from {α : Type} {z : Nat} {enc : α → List Value} {w : World} {A : Option Addr} {len cap lo : Nat} {zs : List α} (h : IsT z enc w A len zs) (hlo : lo ≤ len) (hcap : len ≤ cap) : IsT z enc w (if cap = lo then A else A.map (·.add (lo * z))) (len - lo) (zs.drop lo) := by
  by_cases h0 : 0 < len - lo
  · obtain ⟨b, o, e, hb, hg⟩ := h.2 (by omega)
    subst e
    rw [if_neg (by omega)]
    have := h.drop lo
    simpa [addr_add] using this
  · exact ⟨by rw [List.length_drop, h.1], fun h1 => absurd h1 h0⟩
end
end
section
open Go.RowKit
theorem lst_drop {α : Type} (N k : Nat) (f : Nat → α) : (lst N f).drop k = lst (N - k) (fun j => f (k + j)) := by
  refine List.ext_getElem? fun j => ?_
  rw [List.getElem?_drop]
  by_cases h : k + j < N
  · rw [lst_get _ h, lst_get _ (show j < N - k by omega)]
  · rw [List.getElem?_eq_none (by rw [lst_length]; omega), List.getElem?_eq_none (by rw [lst_length]; omega)]
theorem maxT_top (f : Nat → SpanD) : ∀ n : Nat, maxT (lst (n + 1) fun k => ((f k).lo, (f k).hi)) ((f 0).lo, (f 0).hi) = (topTo (fun k => (f k).lo) n, topTo (fun k => (f k).hi) n)
  | 0 => by simp [lst, maxT, topTo]
  | n + 1 => by rw [lst_snoc, maxT_snoc, maxT_top f n]; rfl
theorem maxL_any (b o nl cap : Nat) (f : Nat → SpanD) (w : World) (hI : IsT 2 SpanD.cells w (some ⟨b, o, none⟩) nl (lst nl f)) (h1 : 1 ≤ nl) (h2 : nl ≤ 1000) (hv : ∀ k, k < nl → vld (f k).lo (f k).hi = true) :
    Calls Tryz.prog 100 #[.slice (some ⟨b, o, none⟩) nl cap] w (Ret (.tuple #[.agg #[.int .i64 (topTo (fun k => (f k).lo) (nl - 1)), .int .i64 (topTo (fun k => (f k).hi) (nl - 1))], .int .i64 0]) w) := by
  obtain ⟨b', o', e, hb, hg⟩ := hI.2 (by omega)
  cases e
  have hgd : ∀ k, k < nl → (lst nl fun k => ((f k).lo, (f k).hi)).getD k (0, 0) = ((f k).lo, (f k).hi) := fun k hk => by
    rw [List.getD_eq_getElem?_getD, lst_get _ hk]; rfl
  have h := max_some b o nl cap (lst nl fun k => ((f k).lo, (f k).hi)) w (by omega) (lst_length _ _) (by omega) hb (fun j hj => by
    rw [hgd j hj]
    exact ⟨by have := hg j _ (lst_get f hj) 0 _ rfl; simpa using this, hg j _ (lst_get f hj) 1 _ rfl⟩) (by
    unfold allV
    rw [List.all_eq_true]
    intro x hx
    obtain ⟨k, hk, rfl⟩ := List.mem_map.1 hx
    exact hv k (List.mem_range.1 hk))
  rw [hgd 0 (by omega)] at h
  obtain ⟨m, rfl⟩ : ∃ m, nl = m + 1 := ⟨nl - 1, by omega⟩
  rw [maxT_top] at h
  exact h
theorem spmix_old {n : Nat} (f : Nat → SpanD) {k : Nat} (hk : k < n) : ∀ (i : Nat) (v : Value), (SpanD.cells (f k))[i]? = some v → (spmix n n f)[0 + k * 2 + i]? = some v := fun i v hv => by
  rw [Nat.zero_add]
  exact mixF_old (z := 2) (F := fun j => SpanD.cells (f j)) (fun _ => rfl) (fun _ => rfl) hk (by rw [if_pos hk]; exact hv)
theorem bd_eq {M : MachD} {C : CurD} {xs : List SpanD} {nx : Nat} (h : nx = cellN M) : topTo (fun k => (flS M C xs (ptA M (nx + k))).lo) (ptN M - nx - 1) = (bdS M C xs).lo ∧ topTo (fun k => (flS M C xs (ptA M (nx + k))).hi) (ptN M - nx - 1) = (bdS M C xs).hi := by
  subst h
  have e : ptN M - cellN M = M.limits.length := by unfold ptN; omega
  simp only [ptA_lim, e]
  exact ⟨rfl, rfl⟩
set_option maxRecDepth 100000 in
theorem parts_any (M : MachD) (C : CurD) (A A2 X : Option Addr) (c c2 nx cx : Nat) (xs : List SpanD) (t : Int) (w : World) (hf : Fit2 M C) (hX : FitX M t xs) (ht : t ≤ 1000000) (hK : IsT 1 intCells w A (ptN M) (knL M C (ptA M) (ptN M))) (hI : IsT 1 intCells w A2 (ptN M * cellN M) (itL M (ptA M) (ptN M))) (hc2 : ptN M * cellN M ≤ c2) (hS : IsT 2 SpanD.cells w X nx xs) : Calls Tryz.prog 61 #[(.agg #[.slice A (ptN M) c, .int .i64 (cellN M : Int), .slice A2 (ptN M * cellN M) c2]), (.slice X nx cx)] w (fun e w' => ∃ b, e = .returned (.tuple #[.slice (some ⟨b, 0, none⟩) nx (ptN M), .slice (some ⟨b, nx * 2, none⟩) (ptN M - nx) (ptN M - nx), (.agg #[.int .i64 (bdS M C xs).lo, .int .i64 (bdS M C xs).hi])]) ∧ Own w [(b, .cells (spmix (ptN M) (ptN M) (fun j => flS M C xs (ptA M j))))] w') := by
  have hcn := cellN_eq hf.check
  have n1 := hS.1
  have n2 := hX.len
  have hlp := limits_pos hf.check
  have hlm := limits_most hf.check
  have hnp : nx < ptN M := by unfold ptN; omega
  have hpm : ptN M ≤ 80 := by unfold ptN; omega
  refine calls_ax (vs := [(.agg #[.slice A (ptN M) c, .int .i64 (cellN M : Int), .slice A2 (ptN M * cellN M) c2]), (.slice X nx cx)]) Tryz.func61 rfl rfl ?_
  refine ac_seq (ac_region ?_)
  refine al_new (fun b => .pointer (some ⟨b, 0, none⟩)) (r_box rfl rfl) rfl rfl rfl ?_
  intro b1
  refine al_p (q_assign rfl) (al_p (q_assign rfl) (al_new (fun b => .pointer (some ⟨b, 0, none⟩)) (r_alloc Tryz.zeroValue52 rfl) rfl rfl rfl ?_))
  intro b2
  refine al_end (aq_then ?_)
  refine ac_seq (ac_region ?_)
  refine al_p (q_loadAll (i := 1) rfl rfl Tryz.isAgg97 Tryz.sizeOf97 rfl) (al_p (q_move rfl) (al_callS Tryz.call75 (.cons rfl (.cons rfl .nil)) rfl rfl (fun w1 hs1 => ?_)))
  refine (fluxes_any M C (ptA M) (ptN M) A A2 X c c2 nx cx xs t _ hf hX ht (hK.below hs1.below) (hI.below hs1.below) hc2 (hS.below hs1.below) (by omega)).mono ?_
  rintro e u1 ⟨bF, rfl, hb_1⟩
  refine ⟨_, _, _, rfl, hs1.gift hb_1, ?_⟩
  refine al_p (q_assign rfl) (al_end (aq_then ?_))
  refine ac_seq (ac_draw 9 (by kernel_rfl) (by kernel_rfl) ?_)
  refine ah_t 0 (fun w9 hs => hs) rfl rfl (by kernel_rfl) (q_move rfl) (ah_t 1 (fun w9 hs => hs) rfl rfl (by kernel_rfl) (q_move rfl) (ah_t 2 (fun w9 hs => hs) rfl rfl (by kernel_rfl) (q_lenS rfl Tryz.runUnderlying45) ?_))
  refine ah_t 3 (fun w9 hs => hs) rfl rfl (by kernel_rfl) (q_upto (hi := nx) rfl rfl rfl (by omega) Tryz.underlying45 Tryz.sizeOf52) (ah_t 4 (fun w9 hs => hs) rfl rfl (by kernel_rfl) (q_move rfl) (ah_t 5 (fun w9 hs => hs) rfl rfl (by kernel_rfl) (q_move rfl) (ah_t 6 (fun w9 hs => hs) rfl rfl (by kernel_rfl) (q_lenS rfl Tryz.runUnderlying45) ?_)))
  refine ah_t 7 (fun w9 hs => hs) rfl rfl (by kernel_rfl) (q_fromS (lo := nx) (o' := nx * 2) rfl rfl rfl (by omega) (Nat.le_refl _) Tryz.underlying45 Tryz.sizeOf52 (by rw [if_neg (by omega)]; omega)) (ah_t 8 (fun w9 hs => hs) rfl rfl (by kernel_rfl) (q_assign rfl) (ah_t 9 (fun w9 hs => hs) rfl rfl (by kernel_rfl) (q_assign rfl) (ah_done (by kernel_rfl) ?_)))
  refine aq_then (ac_seq (ac_region ?_))
  refine al_p (q_move rfl) (al_call Tryz.call100 (.cons rfl .nil) rfl rfl (fun w2 hs2 => ?_))
  refine (maxL_any bF (nx * 2) (ptN M - nx) (ptN M - nx) (fun j => flS M C xs (ptA M (nx + j))) _ (by have h9 := (isT_box0 (n := 2) (enc := SpanD.cells) (zs := lst (ptN M) (fun j => flS M C xs (ptA M j))) (fun _ => rfl) (hs2.at 0 rfl) (flat_spx _ _) (lst_length _ _)).drop nx; rw [lst_drop] at h9; simpa using h9) (by omega) (by omega) (fun k _ => vld_iff.2 (by have := flS_bd hf hX ht (ptA M (nx + k)); omega))).mono ?_
  rintro e u2 ⟨rfl, hb_2⟩
  refine ⟨_, rfl, hb_2, ?_⟩
  clear hs2
  refine al_p (q_move rfl) (al_p (q_extract rfl rfl) (al_p (q_extract rfl rfl) (al_storeAll (i := 1) rfl rfl rfl rfl Tryz.sizeOf52 rfl rfl .k1 rfl (al_end (aq_then ?_)))))
  refine ac_seq (ac_drawK 3 5 rfl (by kernel_rfl) (by kernel_rfl) ?_)
  refine ah_t 0 (fun w9 hs => (hs.tail 3 rfl)) rfl rfl (by kernel_rfl) (q_move rfl) (ah_t 1 (fun w9 hs => (hs.tail 3 rfl)) rfl rfl (by kernel_rfl) (q_move rfl) (ah_t 3 (fun w9 hs => (hs.tail 3 rfl)) rfl rfl (by kernel_rfl) (q_assign rfl) (ah_t 4 (fun w9 hs => (hs.tail 3 rfl)) rfl rfl (by kernel_rfl) (q_assign rfl) (ah_one 2 rfl (by kernel_rfl) (fun hok1 hcl1 => ?_)))))
  refine al_p (q_loadAll (i := 1) rfl rfl Tryz.isAgg52 Tryz.sizeOf52 rfl) (al_end (ah_back hok1 hcl1 (fun w9 hs => (hs.tail 3 rfl)) ?_))
  refine ah_one 5 rfl (by kernel_rfl) (fun hok2 hcl2 => ?_)
  refine al_storeAll (i := 1) rfl rfl rfl rfl Tryz.sizeOf52 rfl rfl .k1 rfl (al_end (ah_last (by kernel_rfl) ?_))
  refine aq_then (ac_ret (retR Tryz.results61 (.tmp rfl (.tmp rfl (.agg (i := 1) rfl rfl Tryz.isAgg52 Tryz.sizeOf52 rfl .nil))) .two (fun w9 hs => ?_)))
  exact ⟨bF, by rw [(bd_eq (M := M) (C := C) (xs := xs) (nx := nx) (by omega)).1, (bd_eq (M := M) (C := C) (xs := xs) (nx := nx) (by omega)).2], hs.own (.cons (j := 0) rfl .nil) (by decide)⟩
def exC (M : MachD) (C : CurD) (xs : List SpanD) (k : Nat) : List Value := (lst k (exA M C xs)).flatMap SpanD.cells
theorem exC_succ (M : MachD) (C : CurD) (xs : List SpanD) (k : Nat) : exC M C xs (k + 1) = exC M C xs k ++ SpanD.cells (exA M C xs k) := by unfold exC; rw [lst_snoc, List.flatMap_append]; simp
theorem eqj_bl_apiSpan_0_1 (a0 a1 : Value) (ha0 : a0.oneCell' = true) (ha1 : a1.oneCell' = true) : ∀ w, (Instr.build 52 #[(0, a0), (1, a1)]).run Tryz.prog w = .ok (.agg #[a0, a1]) w := by
  have ea0 : a0.cells = #[a0] := cells_one ha0
  have ea1 : a1.cells = #[a1] := cells_one ha1
  intro w; simp [Instr.build, Instr.fill, cells_agg, Tryz.runUnderlying52, Tryz.zeroValue52, Tryz.sizeOf3, ea0, ea1]
theorem eqj_bs_apiSpan_1_0_ (c0_0 c0_1 : Value) : ∀ w, (Instr.buildSlice 45 1 #[(0, .agg #[c0_0, c0_1])]).run Tryz.prog w = .ok (.slice (some ⟨w.heap.size, 0, none⟩) 1 1) (w.alloc (.cells [c0_0, c0_1].toArray 52)) := by
  intro w; (simp [Instr.buildSlice, Instr.fill, cells_agg, newRow, Tryz.runUnderlying45, Tryz.zeroValue52, Tryz.sizeOf52] <;> (rw [(by kernel_rfl : Array.range 2 = #[0, 1])]; simp [Value.cells]))
set_option maxRecDepth 100000 in
theorem excesses_any (M : MachD) (C : CurD) (A A2 X : Option Addr) (c c2 nx cx : Nat) (xs : List SpanD) (t : Int) (w : World) (hf : Fit2 M C) (hX : FitX M t xs) (ht : t ≤ 1000000) (hK : IsT 1 intCells w A (ptN M) (knL M C (ptA M) (ptN M))) (hI : IsT 1 intCells w A2 (ptN M * cellN M) (itL M (ptA M) (ptN M))) (hc2 : ptN M * cellN M ≤ c2) (hS : IsT 2 SpanD.cells w X nx xs) : Calls Tryz.prog 122 #[(.agg #[.slice A (ptN M) c, .int .i64 (cellN M : Int), .slice A2 (ptN M * cellN M) c2]), (.slice X nx cx)] w (fun e w' => ∃ A c, e = .returned (.tuple #[.slice A nx c, (.agg #[.int .i64 (exLo M C xs), .int .i64 (exHi M C xs)])]) ∧ NewT 2 SpanD.cells w.heap.size w' A nx c (lst nx (exA M C xs)) ∧ Below w.heap.size w w') := by
  have hcn := cellN_eq hf.check
  have n1 := hS.1
  have n2 := hX.len
  have hlp := limits_pos hf.check
  have hlm := limits_most hf.check
  have hnp : nx < ptN M := by unfold ptN; omega
  have hpm : ptN M ≤ 80 := by unfold ptN; omega
  have n3 : nx = cellN M := by omega
  refine calls_ax (vs := [(.agg #[.slice A (ptN M) c, .int .i64 (cellN M : Int), .slice A2 (ptN M * cellN M) c2]), (.slice X nx cx)]) Tryz.func122 rfl rfl ?_
  refine ac_seq (ac_region ?_)
  refine al_new (fun b => .pointer (some ⟨b, 0, none⟩)) (r_box rfl rfl) rfl rfl rfl ?_
  intro b1
  refine al_p (q_assign rfl) (al_new (fun b => .pointer (some ⟨b, 0, none⟩)) (r_alloc Tryz.zeroValue52 rfl) rfl rfl rfl ?_)
  intro b2
  refine al_end (aq_then ?_)
  refine ac_seq (ac_region ?_)
  refine al_p (q_loadAll (i := 1) rfl rfl Tryz.isAgg97 Tryz.sizeOf97 rfl) (al_p (q_move rfl) (al_callS Tryz.call61 (.cons rfl (.cons rfl .nil)) rfl rfl (fun w1 hs1 => ?_)))
  refine (parts_any M C A A2 X c c2 nx cx xs t _ hf hX ht (hK.below hs1.below) (hI.below hs1.below) hc2 (hS.below hs1.below)).mono ?_
  rintro e u1 ⟨bF, rfl, hb_1⟩
  refine ⟨_, _, _, rfl, hs1.gift hb_1, ?_⟩
  refine al_p (q_move rfl) (al_p (q_extract rfl rfl) (al_p (q_extract rfl rfl) (al_p (q_extract rfl rfl) (al_new (fun b => .pointer (some ⟨b, 0, none⟩)) (r_alloc Tryz.zeroValue52 rfl) rfl rfl rfl ?_))))
  intro b3
  refine al_p (q_assign rfl) (al_p (q_assign rfl) (al_storeAll (i := 0) rfl rfl rfl rfl Tryz.sizeOf52 rfl rfl .k0 rfl (al_end (aq_then ?_))))
  refine ac_seq (ac_seq (ac_region ?_))
  refine al_p (q_move rfl) (al_p (q_lenS rfl Tryz.runUnderlying45) (al_p (q_move rfl) (al_end (aq_then ?_))))
  refine ac_block (ac_loop (β := Nat × Gr) (fun p => p.1 ≤ nx ∧ gok p.2 p.1 2 (exC M C xs p.1)) (fun p => [(4, (.slice (gA p.2) p.1 (gC p.2))), (5, (.pointer (some ⟨b2, 0, none⟩))), (8, (.pointer (some ⟨b3, 0, none⟩))), (19, (.slice (some ⟨bF, 0, none⟩) nx (ptN M))), (20, (.int .i64 (nx : Int))), (21, (.int .i64 (p.1 : Int)))]) (fun _ => _) (fun p => (b3, _) :: (bF, _) :: (b2, .cells [.int .i64 (dotTo (fun k => (exA M C xs k).lo) p.1), .int .i64 (dotTo (fun k => (exA M C xs k).hi) p.1)]) :: (b1, _) :: (gt p.2 (exC M C xs p.1) ++ ([]))) (fun p => nx - p.1) (0, none) ⟨Nat.zero_le _, gok.none 2⟩ ⟨rfl, rfl, rfl, rfl, rfl, rfl, trivial⟩ (fun w9 hs => hs) (fun p hF1 => ?_))
  obtain ⟨hpx, hgp⟩ := hF1
  refine ac_seq (ac_region ?_)
  refine al_p (q_lss rfl rfl) (al_end (aq_then ?_))
  refine ac_seq ?_
  refine ac_cond rfl (fun h1 => ?_) (fun h1 => ?_)
  · have hpl : p.1 < nx := by have := of_decide_eq_true h1; omega
    have hpe : ptA M p.1 = cellP M p.1 := ptA_cell (by omega)
    have hpt := spmix_old (n := ptN M) (fun j => flS M C xs (ptA M j)) (k := p.1) (by omega)
    have g1 := flS_bd hf hX ht (ptA M p.1)
    have g2 := bdS_bd hf hX ht
    have g3 := exS_bd hf hX ht (n := p.1) (by omega)
    have hex : exA M C xs p.1 = ⟨(max 0 ((flS M C xs (ptA M p.1)).lo - (bdS M C xs).hi)), (max 0 ((flS M C xs (ptA M p.1)).hi - (bdS M C xs).lo))⟩ := by unfold exA; rw [hpe]
    refine ac_skip (aq_then (ac_seq (ac_block (ac_seq (ac_region ?_)))))
    refine al_p (q_indexAddr (i := p.1) (0 + p.1 * 2 + 0) rfl rfl rfl (by omega) Tryz.runUnderlying45 Tryz.sizeOf52 rfl) (al_p (q_loadXs (SpanD.cells (flS M C xs (ptA M p.1))) rfl Tryz.isAgg52 Tryz.sizeOf52 (fun w9 hs j9 v9 h9 => by rw [addr_add]; exact ((hs.at 1 rfl).cell _ rfl _ _ (hpt j9 v9 h9)).1) rfl) (al_new (fun b => .pointer (some ⟨b, 0, none⟩)) (r_alloc Tryz.zeroValue52 rfl) rfl rfl rfl ?_))
    intro b4
    refine al_storeAll (i := 0) rfl rfl rfl rfl Tryz.sizeOf52 rfl rfl .k0 rfl (al_end (aq_then ?_))
    refine ac_seq (ac_region ?_)
    refine al_p (q_fieldAddr 0 rfl Tryz.runUnderlying52 rfl Tryz.sizeOf3 (by decide) rfl) (al_p (q_load (i := 0) rfl rfl rfl Tryz.isAgg3) ?_)
    refine al_p (q_fieldAddr 1 rfl Tryz.runUnderlying52 rfl Tryz.sizeOf3 (by decide) rfl) (al_p (q_load (i := 1) rfl rfl rfl Tryz.isAgg3) ?_)
    refine al_p (q_sub rfl rfl (by omega)) (al_p (q_max rfl rfl) ?_)
    refine al_p (q_fieldAddr 1 rfl Tryz.runUnderlying52 rfl Tryz.sizeOf3 (by decide) rfl) (al_p (q_load (i := 0) rfl rfl rfl Tryz.isAgg3) ?_)
    refine al_p (q_fieldAddr 0 rfl Tryz.runUnderlying52 rfl Tryz.sizeOf3 (by decide) rfl) (al_p (q_load (i := 1) rfl rfl rfl Tryz.isAgg3) ?_)
    refine al_p (q_sub rfl rfl (by omega)) (al_p (q_max rfl rfl) (al_p (q_build (.cons rfl (.cons rfl .nil)) (eqj_bl_apiSpan_0_1 _ _ rfl rfl)) (al_new (fun b => .pointer (some ⟨b, 0, none⟩)) (r_alloc Tryz.zeroValue52 rfl) rfl rfl rfl ?_)))
    intro b5
    refine al_storeAll (i := 0) rfl rfl rfl rfl Tryz.sizeOf52 rfl rfl .k0 rfl (al_end (aq_then ?_))
    refine ac_seq (ac_region ?_)
    refine al_p (q_move rfl) (al_p (q_loadAll (i := 0) rfl rfl Tryz.isAgg52 Tryz.sizeOf52 rfl) (al_new (fun b => .slice (some ⟨b, 0, none⟩) 1 1) (r_buildSlice (.cons rfl .nil) (eqj_bs_apiSpan_1_0_ _ _)) rfl rfl rfl ?_))
    intro b6
    refine al_grow (z := 2) (bytes := 16) (zv := (.agg #[.int .i64 0, .int .i64 0])) (o := p.2) (cs := (exC M C xs p.1)) (vs := [.int .i64 (max 0 ((flS M C xs (ptA M p.1)).lo - (bdS M C xs).hi)), .int .i64 (max 0 ((flS M C xs (ptA M p.1)).hi - (bdS M C xs).lo))]) rfl rfl (.s (.s (.s (.s (.s (.s (.s (.z)))))))) hgp (Sor.box (j := 0) rfl rfl rfl) Tryz.underlying45 (by kernel_rfl) rfl (by omega) (by decide) rfl rfl (fun o_1 g_1 => ?_)
    refine ⟨_, (.s (.s (.s (.s (.s (.s (.s (.z)))))))), ?_⟩
    refine al_p (q_assign rfl) (al_end (aq_then ?_))
    refine ac_seq (ac_region ?_)
    refine al_p (q_fieldAddr 0 rfl Tryz.runUnderlying52 rfl Tryz.sizeOf3 (by decide) rfl) (al_p (q_load (i := 5) rfl rfl rfl Tryz.isAgg3) ?_)
    refine al_p (q_fieldAddr 0 rfl Tryz.runUnderlying52 rfl Tryz.sizeOf3 (by decide) rfl) (al_p (q_load (i := 1) rfl rfl rfl Tryz.isAgg3) ?_)
    refine al_p (q_add rfl rfl (by omega)) ?_
    refine al_p (q_fieldAddr 0 rfl Tryz.runUnderlying52 rfl Tryz.sizeOf3 (by decide) rfl) (al_store1 (i := 5) rfl rfl rfl rfl Tryz.sizeOf3 .k0 .k5 rfl (al_end (aq_then ?_)))
    refine ac_region ?_
    refine al_p (q_fieldAddr 1 rfl Tryz.runUnderlying52 rfl Tryz.sizeOf3 (by decide) rfl) (al_p (q_load (i := 5) rfl rfl rfl Tryz.isAgg3) ?_)
    refine al_p (q_fieldAddr 1 rfl Tryz.runUnderlying52 rfl Tryz.sizeOf3 (by decide) rfl) (al_p (q_load (i := 1) rfl rfl rfl Tryz.isAgg3) ?_)
    refine al_p (q_add rfl rfl (by omega)) ?_
    refine al_p (q_fieldAddr 1 rfl Tryz.runUnderlying52 rfl Tryz.sizeOf3 (by decide) rfl) (al_store1 (i := 5) rfl rfl rfl rfl Tryz.sizeOf3 .k1 .k5 rfl (al_end (aq_inN (aq_then ?_))))
    refine ac_region ?_
    refine al_p (q_add rfl rfl (by omega)) (al_p (q_move rfl) (al_end (aq_then ?_)))
    skip
    refine aq_round ((p.1 + 1, o_1)) (by simp only; omega) ⟨by simp only; omega, by simp only; rw [exC_succ, hex]; exact g_1⟩ ⟨rfl, rfl, rfl, rfl, rfl, rfl, trivial⟩ (fun w9 hs => (by dsimp only; rw [exC_succ, show dotTo (fun k => (exA M C xs k).lo) (p.1 + 1) = dotTo (fun k => (exA M C xs k).lo) p.1 + (exA M C xs p.1).lo from rfl, show dotTo (fun k => (exA M C xs k).hi) (p.1 + 1) = dotTo (fun k => (exA M C xs k).hi) p.1 + (exA M C xs p.1).hi from rfl, hex]; exact (hs.tail 3 rfl)))
  · have hpn : p.1 = nx := by have := of_decide_eq_false h1; omega
    refine ac_exit (aq_thenE (aq_thenE (aq_hit (aq_then ?_))))
    refine ac_seq (ac_drawH 3 3 (.s (.s (.s (.s .z)))) rfl (by kernel_rfl) (by kernel_rfl) ?_)
    refine ah_t 0 (fun w9 hs => ((hs.tail 3 rfl).front (.s (.z)))) rfl rfl (by kernel_rfl) (q_move rfl) (ah_t 2 (fun w9 hs => ((hs.tail 3 rfl).front (.s (.z)))) rfl rfl (by kernel_rfl) (q_assign rfl) (ah_one 1 rfl (by kernel_rfl) (fun hok1 hcl1 => ?_)))
    refine al_p (q_loadAll (i := 2) rfl rfl Tryz.isAgg52 Tryz.sizeOf52 rfl) (al_end (ah_back hok1 hcl1 (fun w9 hs => ((hs.tail 3 rfl).front (.s (.z)))) ?_))
    refine ah_one 3 rfl (by kernel_rfl) (fun hok2 hcl2 => ?_)
    refine al_storeAll (i := 2) rfl rfl rfl rfl Tryz.sizeOf52 rfl rfl .k2 rfl (al_end (ah_last (by kernel_rfl) ?_))
    refine aq_then (ac_ret (retR Tryz.results122 (.tmp rfl (.agg (i := 2) rfl rfl Tryz.isAgg52 Tryz.sizeOf52 rfl .nil)) .two (fun w9 hs => ?_)))
    exact ⟨gA p.2, gC p.2, by rw [hpn]; unfold exLo exHi; rw [← n3], by have h9 := hs.grown (enc := SpanD.cells) (o := p.2) (cs := exC M C xs p.1) (zs := lst p.1 (exA M C xs)) (fun _ => rfl) (fun y hy => by simp [hy]) hgp rfl (lst_length _ _); rw [hpn] at h9; exact h9, hs.below⟩
end
end Go.Proofs.YtogcjgjhmlifgaaGreat
