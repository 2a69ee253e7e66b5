import Derived.Test.YtkhahbnagbjbiaaGreatNBC
import Derived.Test.YtkhahbnagbjbiaaGreatNBN
import Derived.Test.YtkhahbnagbjbiaaGreatNBO
import Derived.Test.YtkhahbnagbjbiaaGreatRows
import Derived.KernelRfl
import Derived.Laws.StructEq
section
/- Abstract walking: a drawn region that fills several own boxes from values known before (x, y, z := a.X, a.Y, a.Z), in whatever order. -/
namespace Go.Proofs.YtkhahbnagbjbiaaGreat
set_option linter.unusedVariables false
set_option linter.unusedSimpArgs false
set_option autoImplicit false
open Go.RowKit

/-- a box that is made by operation ia, known in slot t, empty (z), and filled (f) by operation ib -/
structure Chn where
  (ia ib t : Nat) (z f : List Value)
abbrev Ph := Option (Nat × Bool)
def Chn.box (c : Chn) : Ph → Boxes
  | none => []
  | some (b, false) => [(b, .cells c.z)]
  | some (b, true) => [(b, .cells c.f)]
abbrev Phs := List (Chn × Ph)
def Apt (c d : Chn) : Prop := c.ia ≠ d.ia ∧ c.ia ≠ d.ib ∧ c.ib ≠ d.ia ∧ c.ib ≠ d.ib ∧ c.t ≠ d.t
theorem Apt.symm {c d : Chn} (h : Apt c d) : Apt d c := ⟨h.1.symm, h.2.2.1.symm, h.2.1.symm, h.2.2.2.1.symm, h.2.2.2.2.symm⟩

section
variable {P : Program} {e0 : Cfg} {U : Snaps} {ops : Array Oper} {Q : Exit → Act → World → Prop} {l0 : Slots} {L0 : Boxes}
/-- operations wait for nothing but what is listed and the box's making -/
def waits (ops : Array Oper) (listed : Array Bool) (j : Nat) (k : Option Nat) : Bool := match ops[j]? with
  | some o => o.after.all fun e => !Region.binds .any e || listed.getD e.on false || k == some e.on
  | none => false
structure Lis (ops : Array Oper) (base listed : Array Bool) (s : Phs) : Prop where
  size : listed.size = ops.size
  base : ∀ j, base.getD j false = true → listed.getD j false = true
  ch : ∀ x ∈ s, listed.getD x.1.ia false = x.2.isSome ∧ listed.getD x.1.ib false = (match x.2 with | some (_, true) => true | _ => false)
  rest : ∀ j, j < ops.size → (∀ x ∈ s, j ≠ x.1.ia ∧ j ≠ x.1.ib) → listed.getD j false = true
theorem getD_put {listed : Array Bool} {i j : Nat} : (listed.setIfInBounds i true).getD j false = if i = j ∧ i < listed.size then true else listed.getD j false := by
  simp only [Array.getD_eq_getD_getElem?, Array.getElem?_setIfInBounds]
  by_cases h : i = j
  · subst h
    by_cases g : i < listed.size
    · simp [g]
    · simp [g]
  · simp [h]
theorem Lis.put {base listed : Array Bool} {S1 S2 : Phs} {c : Chn} {p q : Ph} {i : Nat} (h : Lis ops base listed (S1 ++ (c, p) :: S2)) (hi : i < ops.size) (hap : ∀ x, x ∈ S1 ∨ x ∈ S2 → Apt c x.1) (hne : c.ia ≠ c.ib)
    (hq : (i = c.ia ∧ p = none ∧ ∃ b, q = some (b, false)) ∨ (i = c.ib ∧ ∃ b, p = some (b, false) ∧ q = some (b, true))) : Lis ops base (listed.setIfInBounds i true) (S1 ++ (c, q) :: S2) := by
  have hsz := h.size
  have mem : ∀ x, x ∈ S1 ∨ x ∈ S2 → x ∈ S1 ++ (c, p) :: S2 := fun x hx => by simp only [List.mem_append, List.mem_cons]; rcases hx with g | g <;> simp [g]
  refine ⟨by simp [hsz], fun j hj => by rw [getD_put]; split; rfl; exact h.base j hj, fun x hx => ?_, fun j hj hall => ?_⟩
  · have hx' : x = (c, q) ∨ (x ∈ S1 ∨ x ∈ S2) := by simp only [List.mem_append, List.mem_cons] at hx; rcases hx with g | g | g <;> simp [g]
    rcases hx' with rfl | hx'
    · have hc := h.ch (c, p) (by simp)
      simp only at hc ⊢
      rcases hq with ⟨rfl, rfl, b, rfl⟩ | ⟨rfl, b, rfl, rfl⟩
      · rw [getD_put, getD_put, if_pos ⟨rfl, by omega⟩, if_neg (fun g => hne g.1)]
        exact ⟨rfl, hc.2⟩
      · rw [getD_put, getD_put, if_neg (fun g => hne g.1.symm), if_pos ⟨rfl, by omega⟩]
        exact ⟨hc.1, rfl⟩
    · have ha := hap x hx'
      have hc := h.ch x (mem x hx')
      rw [getD_put, getD_put]
      rcases hq with ⟨rfl, -, -⟩ | ⟨rfl, -, -⟩
      · rw [if_neg (fun g => ha.1 g.1), if_neg (fun g => ha.2.1 g.1)]; exact hc
      · rw [if_neg (fun g => ha.2.2.1 g.1), if_neg (fun g => ha.2.2.2.1 g.1)]; exact hc
  · rw [getD_put]
    split
    · rfl
    · refine h.rest j hj fun x hx => ?_
      have hx' : x = (c, p) ∨ (x ∈ S1 ∨ x ∈ S2) := by simp only [List.mem_append, List.mem_cons] at hx; rcases hx with g | g | g <;> simp [g]
      rcases hx' with rfl | hx'
      · exact hall (c, q) (by simp)
      · exact hall x (by simp only [List.mem_append, List.mem_cons]; rcases hx' with g | g <;> simp [g])
theorem q_uptoM {t e z len cap hi mx : Nat} {hii mxi : Int} {k k' : IntKind} {A : Option Addr} {ox oj om : Operand} {ty : TypeId} {pos : String} {af : Array Edge} {g : Option (Nat × Bool)} {dd : Option Nat} {l : Slots} {L : Boxes} (hx : E l ox = some (.slice A len cap)) (hi2 : E l oj = some (.int k hii)) (hm2 : E l om = some (.int k' mxi)) (h2 : hii = (hi : Int)) (h3 : mxi = (mx : Int)) (hle : hi ≤ mx) (hcap : mx ≤ cap) (hu : P.underlying t = some (.slice e)) (hz : ∀ w, (sizeOf e).run P w = .ok z w) :
    Q1 P e0 U l L ⟨dd, .slice t ox none (some oj) (some om), ty, pos, af, g⟩ (.slice A hi mx) := by
  intro a w hf hs
  subst h2 h3
  have hru : ∀ w, (underlying t).run P w = .ok (.slice e) w := fun w => run_underlying hu w
  simp only [execOp, hf.ev hx, Option.map_some, hf.ev hi2, hf.ev hm2, Option.map_none]
  simp [Instr.sliceAt, Instr.slice, hru, Instr.sliceBounds, Instr.sliceBound, asIntOf, hcap, hle, hz]
  cases A <;> simp [Addr.add]
theorem IsT.drop {α : Type} {n : Nat} {enc : α → List Value} {w : World} {b o len : Nat} {zs : List α} (h : IsT n enc w (some ⟨b, o, none⟩) len zs) (k : Nat) : IsT n enc w (some ⟨b, o + k * n, none⟩) (len - k) (zs.drop k) :=
  ⟨by rw [List.length_drop, h.1], fun h0 => by
    obtain ⟨b', o', e, h1, h2⟩ := h.2 (by omega)
    cases e
    refine ⟨b, o + k * n, rfl, h1, fun j x hx i v hv => ?_⟩
    rw [List.getElem?_drop] at hx
    have := h2 (k + j) x hx i v hv
    rwa [Nat.add_mul, ← Nat.add_assoc] at this⟩
end

end Go.Proofs.YtkhahbnagbjbiaaGreat
end
section
/- Package circuit: Run, over this seat's translation (written by ax_co2.py). -/
namespace Go.Proofs.YtkhahbnagbjbiaaGreat
set_option linter.unusedVariables false
set_option linter.unusedSimpArgs false
open Go.RowKit

theorem bnot_t {b : Bool} (h : (!b) = true) : b = false := by cases b <;> simp_all
theorem bnot_f {b : Bool} (h : (!b) = false) : b = true := by cases b <;> simp_all
abbrev DrvX := DrvR × List Int × List Int
def zDX : DrvX := (⟨none, none, 0, 0, 0, 0⟩, [], [])
def dA (xs : List DrvX) (k : Nat) : DrvX := xs.getD k zDX
theorem dA_get {xs : List DrvX} {k : Nat} (h : k < xs.length) : xs[k]? = some (dA xs k) := getD_get h
theorem dA_mem {xs : List DrvX} {k : Nat} (h : k < xs.length) : dA xs k ∈ xs := List.mem_of_getElem? (dA_get h)
theorem dA_of {xs : List DrvX} {k : Nat} {x : DrvX} (h : xs[k]? = some x) : dA xs k = x := by simp [dA, List.getD_eq_getElem?_getD, h]
abbrev dsX (xs : List DrvX) : Nat → List Int × List Int := fun k => (dA xs k).2
def vD (M : MachD) (d : List Int × List Int) : Bool := validCh M d.1 1000000000000000 && validPl M d.2
def allVD (M : MachD) (xs : List DrvX) : Prop := ∀ k, k < xs.length → vD M (dsX xs k) = true
instance (M : MachD) (xs : List DrvX) : Decidable (allVD M xs) := Nat.decidableBallLT xs.length (fun k _ => vD M (dsX xs k) = true)
def runE (M : MachD) (S : StD) (xs : List DrvX) : Int := if validS M S = true ∧ allVD M xs then (if S.tick + (xs.length : Int) > 1000000000 then 7 else 0) else 1
def runL (M : MachD) (S : StD) (xs : List DrvX) : List StD := if runE M S xs = 0 then (List.range (xs.length + 1)).map (stepsD M S (dsX xs)) else []
theorem vD_fit {M : MachD} {d : List Int × List Int} (h : vD M d = true) : FitD M d := by
  have h2 := (Bool.and_eq_true _ _).mp h
  exact fitD_of h2.1 h2.2
/-- what a function gives that answers with a list of states -/
def OutSS (w : World) (E : Int) (L : List StD) (e : Ending) (w' : World) : Prop :=
  ∃ (A : Option Addr) (n c : Nat) (ys : List (StR × StD)), e = .returned (.tuple #[.slice A n c, .int .i64 E]) ∧ NewT 6 yC w.heap.size w' A n c ys ∧ ys.map Prod.snd = L ∧ (∀ p ∈ ys, IsS w' p.1 p.2 ∧ p.1.All (fun b => w.heap.size ≤ b)) ∧ Below w.heap.size w w'
theorem newT_nil {α : Type} (z : Nat) (enc : α → List Value) (B : Nat) (w : World) : NewT z enc B w none 0 0 ([] : List α) := ⟨IsT.nil z enc w none, (fun b o e => by cases e), by omega⟩
theorem OutSS.bad {w : World} {E : Int} {L : List StD} {e : Ending} {w' : World} (hL : L = []) (h : Ret (.tuple #[.slice none 0 0, .int .i64 E]) w e w') : OutSS w E L e w' :=
  ⟨none, 0, 0, [], h.1, newT_nil 6 yC _ _, by rw [hL]; rfl, (fun p hp => by cases hp), h.2⟩
theorem runL_bad {M : MachD} {S : StD} {xs : List DrvX} {k : Int} (h : runE M S xs = k) (hk : k ≠ 0) : runL M S xs = [] := if_neg (by rw [h]; exact hk)
theorem Cld.map {sts : Nat → StD} {B n : Nat} {Y : List Nat} {ys : List (StR × StD)} {W : World} (h : Cld sts B Y n ys W) : ys.map Prod.snd = (List.range n).map sts := by
  refine List.ext_getElem? fun j => ?_
  rw [List.getElem?_map, List.getElem?_map]
  by_cases hj : j < n
  · obtain ⟨p, hp⟩ : ∃ p, ys[j]? = some p := ⟨_, List.getElem?_eq_getElem (by rw [h.1]; exact hj)⟩
    rw [hp, List.getElem?_range hj]
    simp [(h.2 j p hp).1]
  · rw [List.getElem?_eq_none (by rw [h.1]; omega), List.getElem?_eq_none (by simp; omega)]; rfl
theorem Cld.all {sts : Nat → StD} {B n : Nat} {Y : List Nat} {ys : List (StR × StD)} {W : World} (h : Cld sts B Y n ys W) : ∀ p ∈ ys, IsS W p.1 p.2 ∧ p.1.All (fun b => B ≤ b) := fun p hp => by
  obtain ⟨j, hj⟩ := List.getElem?_of_mem hp
  obtain ⟨_, h2, h3⟩ := h.2 j p hj
  exact ⟨h2, h3.mono (fun b hb => hb.1)⟩
theorem newT_late {α : Type} {z n c : Nat} {enc : α → List Value} {E : Cfg} {U : Snaps} {L : Boxes} {w u : World} {B lo : Nat} {A : Option Addr} {zs : List α} (hs : Sta E U L w) (hu : (lo, u) ∈ U) (hz : B ≤ lo) (hN : NewT z enc lo u A n c zs) : NewT z enc B w A n c zs :=
  ⟨hs.newT hu hN, (fun b o e => Nat.le_trans hz (hN.new b o e)), hN.le⟩
theorem outSS_late {E : Cfg} {U : Snaps} {L : Boxes} {w0 w wi u : World} {A : Option Addr} {n c : Nat} {ys : List (StR × StD)} {L' : List StD} (hs : Sta E U L w) (hu : (wi.heap.size, u) ∈ U) (hz : w0.heap.size ≤ wi.heap.size) (hb : Below w0.heap.size w0 w) (hN : NewT 6 yC wi.heap.size u A n c ys) (hL : ys.map Prod.snd = L') (hC : ∀ p ∈ ys, IsS u p.1 p.2 ∧ p.1.All (fun b => wi.heap.size ≤ b)) : OutSS w0 0 L' (.returned (.tuple #[.slice A n c, .int .i64 0])) w :=
  ⟨A, n, c, ys, rfl, newT_late hs hu hz hN, hL, (fun p hp => ⟨hs.isS hu (hC p hp).1 (hC p hp).2, (hC p hp).2.mono (fun b hb => Nat.le_trans hz hb)⟩), hb⟩
theorem FcS.keep0 {R : MachR} {M : MachD} {Lk : Option Addr} {cl : Nat} {rows : List (Option Addr × Nat)} {RS : StR} {S : StD} {bs bd bc bv N dc : Nat} {DL : Option Addr} {dr : List DrvR} {ds : Nat → List Int × List Int} {u W : World} (h : FcS R M Lk cl rows RS S bs bd bc bv N dc DL dr ds u)
    (lbs : bs < u.heap.size) (lbd : bd < u.heap.size) (lbc : bc < u.heap.size) (lbv : bv < u.heap.size) (hs : u.heap.size ≤ W.heap.size) (hk : ∀ b, b < u.heap.size → W.heap[b]? = u.heap[b]?) : FcS R M Lk cl rows RS S bs bd bc bv N dc DL dr ds W :=
  ⟨h.m.keep0 hs hk, ⟨Same_keep h.k.out hs hk, fun i r hr => Same_keep (h.k.row i r hr) hs hk⟩, h.s.keep0 hs hk, (fun j v hj => (cell_blk (hk bs lbs)).trans (h.bs j v hj)), (fun j v hj => (cell_blk (hk bc lbc)).trans (h.bc j v hj)), (cell_blk (hk bd lbd)).trans h.bd, (cell_blk (hk bv lbv)).trans h.bv, Same_keep h.dl hs hk, fun k r hr => ⟨Same_keep (h.dm k r hr).1 hs hk, Same_keep (h.dm k r hr).2 hs hk⟩⟩
theorem iter_states (R : MachR) (M : MachD) (Lk : Option Addr) (cl : Nat) (rows : List (Option Addr × Nat)) (RS : StR) (S : StD) (bs bd bc bv N dc : Nat) (DL : Option Addr) (dr : List DrvR) (ds : Nat → List Int × List Int) (u : World) (hN : N ≤ 100000) (hF : FcS R M Lk cl rows RS S bs bd bc bv N dc DL dr ds u)
    (hFit : ∀ k, k ≤ N → FitS M (stepsD M S ds k)) (hdf : ∀ k, k < N → FitD M (ds k)) (lbs : bs < u.heap.size) (lbd : bd < u.heap.size) (lbc : bc < u.heap.size) (lbv : bv < u.heap.size) :
    ∀ (b : Nat) (v : World), Below u.heap.size u v → u.heap.size ≤ b → b < v.heap.size → IterOwn Tryz.prog 66 #[.pointer (some ⟨bs, 0, none⟩), .pointer (some ⟨bd, 0, none⟩), .pointer (some ⟨bc, 0, none⟩)] (fun x : StR × Int => x.1.v x.2) (GoodO (stepsD M S ds) v.heap.size) [b] 1 (N + 1) v := by
  intro b v hb hl hlt
  have hz := hb.size
  refine states1_own R M Lk cl rows RS (stepsD M S ds) bs bd bc bv N dc DL dr ds [b] v (by omega) (fun W hk => ?_) (fun _ _ => rfl) hFit hdf (by omega) (by omega) (by omega) (by omega) (by simp; omega) ?_ (fun x hx => by rw [List.mem_singleton.1 hx]; exact hlt)
  · obtain ⟨q1, q2⟩ := kp_old hb hk hl
    exact hF.keep0 lbs lbd lbc lbv q1 q2
  · intro h0 b1 o1 e
    obtain ⟨b', o', e', h1, _⟩ := hF.dl.2 h0
    rw [e] at e'; cases e'
    exact ⟨by simp; omega, by omega⟩

set_option maxRecDepth 100000 in
theorem collect_any (sts : Nat → StD) (gf : Nat) (lb : Array Value) (N : Nat) (w : World) (hN : N ≤ 100000) (eg : ∀ args w, (callFunc gf args).run Tryz.prog w = .ok (.enter gf args) w)
    (hseq : ∀ (b : Nat) (v : World), Below w.heap.size w v → w.heap.size ≤ b → b < v.heap.size → IterOwn Tryz.prog gf lb (fun x : StR × Int => x.1.v x.2) (GoodO sts v.heap.size) [b] 1 N v) : Calls Tryz.prog 33 #[(.func (.func gf) #[] lb)] w (fun e w' => ∃ A c ys, e = .returned (.slice A N c) ∧ NewT 6 yC w.heap.size w' A N c ys ∧ ys.map Prod.snd = (List.range N).map sts ∧ (∀ p ∈ ys, IsS w' p.1 p.2 ∧ p.1.All (fun b => w.heap.size ≤ b)) ∧ Below w.heap.size w w') := by
  refine calls_ax (vs := [(.func (.func gf) #[] lb)]) Tryz.func33 rfl rfl ?_
  refine ac_seq (ac_region ?_)
  refine al_p (q_assign rfl) ?_
  refine al_end (aq_then ?_)
  refine ac_seq (ac_region ?_)
  refine al_p (q_move rfl) ?_
  refine al_call Tryz.call62 (.cons rfl (.cons rfl .nil)) rfl rfl (fun w1 hs1 => ?_)
  have hz := hs1.below.size
  refine (appendSeq_any sts gf lb N _ hN eg (fun b v h1 h2 h3 => hseq b v (hs1.below.trans (h1.mono hs1.below.size)) (by have := hs1.below.size; omega) h3)).mono ?_
  rintro e u1 ⟨A9, c9, ys9, rfl, k1_, k2_, hb_1⟩
  refine ⟨_, rfl, hb_1, ?_⟩
  clear hs1
  refine al_p (q_assign rfl) ?_
  refine al_end (aq_then ?_)
  refine ac_ret ?_
  refine ret1 Tryz.results33 rfl (fun w9 hs => ?_)
  exact ⟨A9, c9, ys9, rfl, newT_late hs (.head _) hz k1_, k2_.map, (fun p hp => ⟨hs.isS (.head _) (k2_.all p hp).1 (k2_.all p hp).2, (k2_.all p hp).2.mono (fun b hb => Nat.le_trans hz hb)⟩), hs.below⟩

set_option maxRecDepth 100000 in
theorem crun_any (R : MachR) (M : MachD) (RS : StR) (S : StD) (A : Option Addr) (n c : Nat) (xs : List DrvX) (w : World) (hM : IsM w R M) (hS : IsS w RS S) (hI : IsT 2 (fun x : DrvX => DrvR.cells x.1) w A n xs) (hX : ∀ x ∈ xs, OpD w x.1 x.2.1 x.2.2) (hn : n ≤ 60) : Calls Tryz.prog 14 #[(.agg (machCells R M)), (RS.v S.tick), (.slice A n c)] w (OutSS w (runE M S xs) (runL M S xs)) := by
  have n1 := hI.1
  refine calls_ax (vs := [(.agg (machCells R M)), (RS.v S.tick), (.slice A n c)]) Tryz.func14 rfl rfl ?_
  refine ac_seq (ac_region ?_)
  refine al_new (fun b => .pointer (some ⟨b, 0, none⟩)) (r_box rfl rfl) rfl rfl rfl ?_
  intro b1
  refine al_new (fun b => .pointer (some ⟨b, 0, none⟩)) (r_box rfl rfl) rfl rfl rfl ?_
  intro b2
  refine al_p (q_assign rfl) ?_
  refine al_p (q_assign rfl) ?_
  refine al_end (aq_then ?_)
  refine ac_seq (ac_region ?_)
  refine al_p (q_makeFunc _ _ .nil (.cons rfl .nil)) ?_
  refine al_p (q_assign rfl) ?_
  refine al_end (aq_then ?_)
  refine ac_seq ?_
  refine ac_seq (ac_region ?_)
  refine al_p (q_loadAll (i := 1) rfl rfl Tryz.isAgg29 Tryz.sizeOf29 rfl) ?_
  refine al_p (q_loadAll (i := 0) rfl rfl Tryz.isAgg35 Tryz.sizeOf35 rfl) ?_
  refine al_call Tryz.call23 (.cons rfl (.cons rfl .nil)) rfl rfl (fun w1 hs1 => ?_)
  refine (validState_any R M RS S _ (hM.below hs1.below) (hS.below hs1.below)).mono ?_
  rintro e u1 ⟨rfl, hb_1⟩
  refine ⟨_, rfl, hb_1, ?_⟩
  clear hs1
  refine al_p (q_not rfl) ?_
  refine al_p (q_move rfl) ?_
  refine aq_split 14 rfl (fun hb1 => ?_) (fun hb1 => ?_)
  · have hE : runE M S xs = 1 := if_neg (fun h => by rw [h.1] at hb1; cases hb1)
    refine al_skip rfl rfl rfl ?_
    refine al_skip rfl rfl rfl ?_
    refine al_skip rfl rfl rfl ?_
    refine al_p (q_pickT rfl rfl) ?_
    refine al_end (aq_then ?_)
    refine ac_condT rfl ?_
    refine ac_seq (ac_region ?_)
    refine al_p (q_assign rfl) ?_
    refine al_p (q_assign rfl) ?_
    refine al_end (aq_then ?_)
    refine ac_ret ?_
    refine aq_thenR ?_
    refine ret2 Tryz.results14 rfl rfl (fun w9 hs => ?_)
    exact OutSS.bad (runL_bad hE (by decide)) ⟨by rw [hE], hs.below⟩
  · have hv : validS M S = true := by simpa using hb1
    have hf := fitS_iff.1 hv
    have hc := hf.cur.check
    obtain ⟨s1, s2⟩ := smallC hM hf.cur.check
    have hft := hf.tick
    refine al_p (q_move rfl) ?_
    refine al_p (q_move rfl) ?_
    refine al_inl Tryz.call32 (.cons rfl (.cons rfl .nil)) rfl rfl Tryz.func32 rfl rfl ?_
    refine ac_seq (ac_region ?_)
    refine al_p (q_assign rfl) ?_
    refine al_end (aq_then ?_)
    refine ac_seq (ac_region ?_)
    refine al_p (q_move rfl) ?_
    refine al_p (q_move rfl) ?_
    refine al_inl Tryz.call61 (.cons rfl (.cons rfl .nil)) rfl rfl Tryz.func61 rfl rfl ?_
    refine ac_seq (ac_region ?_)
    refine al_p (q_assign rfl) ?_
    refine al_end (aq_then ?_)
    refine ac_seq ?_
    refine ac_seq (ac_region ?_)
    refine al_p (q_move rfl) ?_
    refine al_p (q_lenS rfl Tryz.runUnderlying46) ?_
    refine al_p (q_move rfl) ?_
    refine al_end (aq_then ?_)
    refine ac_block ?_
    refine ac_loop (β := Nat) (fun k => k ≤ n ∧ ∀ j, j < k → vD M (dsX xs j) = true) (fun k => [(0, (.slice A n c)), (1, (.func (.func 31) #[] #[.pointer (some ⟨b1, 0, none⟩)])), (4, (.int .i64 0)), (7, (.int .i64 (n : Int))), (8, (.int .i64 (k : Int)))]) (fun _ => _) (fun k => [(b2, _), (b1, _)]) (fun k => n - k) 0 ⟨by omega, fun j h => by omega⟩ ⟨rfl, rfl, rfl, rfl, rfl, trivial⟩ (fun w9 hs => hs) (fun k hF1 => ?_)
    refine ac_seq (ac_region ?_)
    refine al_p (q_lss rfl rfl) ?_
    refine al_end (aq_then ?_)
    refine ac_seq ?_
    refine ac_cond rfl (fun h1 => ?_) (fun h1 => ?_)
    · have hkn : k < n := by have := of_decide_eq_true h1; omega
      obtain ⟨b11, o11, hA1, hlt1, hget1⟩ := hI.2 (by omega)
      have hx1 := dA_get (xs := xs) (k := k) (by omega)
      refine ac_skip ?_
      refine aq_then ?_
      refine ac_seq ?_
      refine ac_block ?_
      refine ac_seq (ac_region ?_)
      refine al_p (q_move rfl) ?_
      refine al_p (q_assign rfl) ?_
      refine al_end (aq_then ?_)
      refine ac_seq (ac_region ?_)
      refine al_p (q_move rfl) ?_
      refine al_p (q_move rfl) ?_
      refine al_p (q_move rfl) ?_
      refine al_p (q_indexAddrA (i := k) (o11 + k * 2 + 0) hA1 rfl rfl rfl (by omega) Tryz.runUnderlying46 Tryz.sizeOf37 rfl) ?_
      refine al_p (q_loadXs (DrvR.cells (dA xs k).1) rfl Tryz.isAgg37 Tryz.sizeOf37 (fun w9 hs j9 v9 h9 => by rw [addr_add]; exact (hs.below.cell (p := ⟨_, _, none⟩) hlt1).trans ((hget1 k _ hx1) j9 v9 h9)) rfl) ?_
      refine al_inlV (fi := []) (ca := [(.pointer (some ⟨b1, 0, none⟩))]) rfl Tryz.call31 (.cons rfl .nil) rfl rfl Tryz.func31 rfl rfl ?_
      refine ac_seq (ac_region ?_)
      refine al_new (fun b => .pointer (some ⟨b, 0, none⟩)) (r_box rfl rfl) rfl rfl rfl ?_
      intro b3
      refine al_p (q_assign rfl) ?_
      refine al_end (aq_then ?_)
      refine ac_seq (ac_region ?_)
      refine al_p (q_loadAll (i := 2) rfl rfl Tryz.isAgg29 Tryz.sizeOf29 rfl) ?_
      refine al_p (q_loadAll (i := 0) rfl rfl Tryz.isAgg37 Tryz.sizeOf37 rfl) ?_
      refine al_call Tryz.call24 (.cons rfl (.cons rfl .nil)) rfl rfl (fun w2 hs2 => ?_)
      have hp := hX _ (dA_mem (xs := xs) (k := k) (by omega))
      refine (validDrive_any R M (dA xs k).1.A1 (dA xs k).1.A2 (dA xs k).1.l1 (dA xs k).1.c1 (dA xs k).1.l2 (dA xs k).1.c2 (dA xs k).2.1 (dA xs k).2.2 _ (hM.below hs2.below) (hp.ch.below hs2.below) (hp.pl.below hs2.below) hp.k2 (by omega) (by omega)).mono ?_
      rintro e u2 ⟨rfl, hb_2⟩
      refine ⟨_, rfl, hb_2, ?_⟩
      clear hs2
      refine al_p (q_not rfl) ?_
      refine al_p (q_assign rfl) ?_
      refine al_end (aq_then ?_)
      refine ac_ret ?_
      refine retI Tryz.results31 (.tmp rfl .nil) .one ?_
      refine al_end (aq_then ?_)
      refine ac_cond rfl (fun h2 => ?_) (fun h2 => ?_)
      · have hvk : vD M (dsX xs k) = false := bnot_t h2
        have hE : runE M S xs = 1 := if_neg (fun h => by have := h.2 k (by omega); rw [hvk] at this; cases this)
        refine ac_seq (ac_region ?_)
        refine al_p (q_move rfl) ?_
        refine al_p (q_assign rfl) ?_
        refine al_end (aq_then ?_)
        refine ac_ret ?_
        refine aq_inR ?_
        refine aq_thenR ?_
        refine aq_thenR ?_
        refine aq_inR ?_
        refine aq_thenR ?_
        refine retI Tryz.results61 (.tmp rfl .nil) .one ?_
        refine al_p (q_geq rfl rfl) ?_
        refine al_p (q_assign rfl) ?_
        refine al_end (aq_then ?_)
        refine ac_ret ?_
        refine retI Tryz.results32 (.tmp rfl .nil) .one ?_
        refine al_p (q_pickF rfl rfl) ?_
        refine al_end (aq_then ?_)
        refine ac_cond rfl (fun h3 => ?_) (fun h3 => ?_)
        · skip
          refine ac_seq (ac_region ?_)
          refine al_p (q_assign rfl) ?_
          refine al_p (q_assign rfl) ?_
          refine al_end (aq_then ?_)
          refine ac_ret ?_
          refine aq_thenR ?_
          refine ret2 Tryz.results14 rfl rfl (fun w9 hs => ?_)
          exact OutSS.bad (runL_bad hE (by decide)) ⟨by rw [hE], hs.below⟩
        · exfalso; have := of_decide_eq_false h3; omega
      · have hvk : vD M (dsX xs k) = true := bnot_f h2
        refine ac_skip ?_
        refine aq_inN ?_
        refine aq_then ?_
        refine ac_region ?_
        refine al_p (q_add rfl rfl (by omega)) ?_
        refine al_p (q_move rfl) ?_
        refine al_end (aq_then ?_)
        skip
        refine aq_round (k + 1) (by omega) ⟨by omega, fun j h1 => (Nat.lt_or_ge j k).elim (fun g => hF1.2 j g) (fun g => by (have e : j = k := by omega); rw [e]; exact hvk)⟩ ⟨rfl, rfl, rfl, rfl, rfl, trivial⟩ (fun w9 hs => ((hs.fewer 1 rfl).tail 1 rfl))
    · have hke : k = n := by have := of_decide_eq_false h1; omega
      have hall : allVD M xs := fun j hj => hF1.2 j (by omega)
      refine ac_exit ?_
      refine aq_thenE ?_
      refine aq_thenE ?_
      refine aq_hit ?_
      refine aq_then ?_
      refine ac_seq (ac_region ?_)
      refine al_p (q_assign rfl) ?_
      refine al_end (aq_then ?_)
      refine ac_ret ?_
      refine retI Tryz.results61 (.tmp rfl .nil) .one ?_
      refine al_p (q_geq rfl rfl) ?_
      refine al_p (q_assign rfl) ?_
      refine al_end (aq_then ?_)
      refine ac_ret ?_
      refine retI Tryz.results32 (.tmp rfl .nil) .one ?_
      refine al_p (q_pickF rfl rfl) ?_
      refine al_end (aq_then ?_)
      refine ac_cond rfl (fun h4 => ?_) (fun h4 => ?_)
      · exfalso; have := of_decide_eq_true h4; omega
      · skip
        refine ac_skip ?_
        refine aq_then ?_
        refine ac_seq ?_
        refine ac_seq (ac_region ?_)
        refine al_p (q_fieldAddr 0 rfl Tryz.runUnderlying35 rfl Tryz.sizeOf3 (by decide) rfl) ?_
        refine al_p (q_load (i := 0) rfl rfl rfl Tryz.isAgg3) ?_
        refine al_p (q_move rfl) ?_
        refine al_p (q_lenS rfl Tryz.runUnderlying46) ?_
        refine al_p (q_add rfl rfl (by omega)) ?_
        refine al_p (q_gtr rfl rfl) ?_
        refine al_end (aq_then ?_)
        refine ac_cond rfl (fun h5 => ?_) (fun h5 => ?_)
        · have hE : runE M S xs = 7 := by rw [runE, if_pos ⟨hv, hall⟩, if_pos (by have := of_decide_eq_true h5; omega)]
          refine ac_seq (ac_region ?_)
          refine al_p (q_assign rfl) ?_
          refine al_p (q_assign rfl) ?_
          refine al_end (aq_then ?_)
          refine ac_ret ?_
          refine aq_thenR ?_
          refine ret2 Tryz.results14 rfl rfl (fun w9 hs => ?_)
          exact OutSS.bad (runL_bad hE (by decide)) ⟨by rw [hE], hs.below⟩
        · have ht9 : S.tick + (n : Int) ≤ 1000000000 := by have := of_decide_eq_false h5; omega
          have hE : runE M S xs = 0 := by rw [runE, if_pos ⟨hv, hall⟩, if_neg (by omega)]
          have hDf : ∀ k, k < n → FitD M (dsX xs k) := fun k hk => vD_fit (hall k (by omega))
          have hFit : ∀ k, k ≤ n → FitS M (stepsD M S (dsX xs) k) := fun k hk => steps_fit hf k (by omega) (fun j hj => hDf j (by omega))
          refine ac_skip ?_
          refine aq_then ?_
          refine ac_seq ?_
          refine ac_seq (ac_region ?_)
          refine al_p (q_move rfl) ?_
          refine al_p (q_lenS rfl Tryz.runUnderlying46) ?_
          refine al_p (q_gtr rfl rfl) ?_
          refine al_end (aq_then ?_)
          refine ac_cond rfl (fun h6 => ?_) (fun h6 => ?_)
          · exfalso; have := of_decide_eq_true h6; omega
          · skip
            refine ac_skip ?_
            refine aq_then ?_
            refine ac_seq ?_
            refine ac_draw 8 (by kernel_rfl) (by kernel_rfl) ?_
            refine ah_t 0 (fun w9 hs => hs) rfl rfl (by kernel_rfl) (q_loadAll (i := 1) rfl rfl Tryz.isAgg29 Tryz.sizeOf29 rfl) ?_
            refine ah_t 2 (fun w9 hs => hs) rfl rfl (by kernel_rfl) (q_loadAll (i := 0) rfl rfl Tryz.isAgg35 Tryz.sizeOf35 rfl) ?_
            refine ah_t 3 (fun w9 hs => hs) rfl rfl (by kernel_rfl) (q_move rfl) ?_
            refine ah_one 1 rfl (by kernel_rfl) (fun hok1 hcl1 => ?_)
            refine al_call Tryz.call34 (.cons rfl .nil) rfl rfl (fun w3 hs3 => ?_)
            refine (newCircuit_any R M _ (hM.below hs3.below) hc).mono ?_
            rintro e u3 ⟨Lk, cl, rows, rfl, NK, hb_3⟩
            refine ⟨_, rfl, hb_3, ?_⟩
            clear hs3
            refine al_end (ah_back hok1 hcl1 (fun w9 hs => (hs.fewer 1 rfl)) ?_)
            refine ah_one 4 rfl (by kernel_rfl) (fun hok2 hcl2 => ?_)
            refine al_callS Tryz.call36 (.cons rfl .nil) rfl rfl (fun w4 hs4 => ?_)
            refine (values_any A n c _).mono ?_
            rintro e u4 ⟨bv, rfl, hb_4⟩
            refine ⟨_, _, _, rfl, hs4.gift hb_4, ?_⟩
            refine al_end (ah_back hok2 hcl2 (fun w9 hs => ((hs.fewer 1 rfl).tail 1 rfl)) ?_)
            refine ah_one 5 rfl (by kernel_rfl) (fun hok3 hcl3 => ?_)
            refine al_callS Tryz.call35 (.cons rfl (.cons rfl (.cons rfl .nil))) rfl rfl (fun w5 hs5 => ?_)
            refine (states_any R M Lk cl RS S.tick (69) (.pointer (some ⟨bv, 0, none⟩)) _).mono ?_
            rintro e u5 ⟨bs, bd, bc, rfl, hb_5⟩
            refine ⟨_, _, _, rfl, hs5.gift hb_5, ?_⟩
            refine al_end (ah_back hok3 hcl3 (fun w9 hs => ((hs.fewer 1 rfl).tail 4 rfl)) ?_)
            refine ah_one 6 rfl (by kernel_rfl) (fun hok4 hcl4 => ?_)
            refine al_call Tryz.call33 (.cons rfl .nil) rfl rfl (fun w6 hs6 => ?_)
            have hz := hs6.below.size
            refine (collect_any (stepsD M S (dsX xs)) _ _ (n + 1) _ (by omega) Tryz.call66 (iter_states R M Lk cl rows RS S bs bd bc bv n c A (xs.map Prod.fst) (dsX xs) _ (by omega) ⟨hM.below hs6.below, hs6.isK (.head _) NK, hS.below hs6.below, (fun j v hj => by rw [Nat.zero_add]; exact ((hs6.at 1 rfl).cell _ rfl j v hj).1), (fun j v hj => by rw [Nat.zero_add]; exact ((hs6.at 2 rfl).cell _ rfl j v hj).1), ((hs6.at 0 rfl).cell _ rfl 0 _ rfl).1, ((hs6.at 3 rfl).cell _ rfl 0 _ rfl).1, (isT_mapD (f := Prod.fst) (E := DrvR.cells) hI).below hs6.below, (fun k r hr => by rw [List.getElem?_map] at hr; obtain ⟨z, hz8, rfl⟩ := Option.map_eq_some_iff.1 hr; have hp := hX z (List.mem_of_getElem? hz8); rw [show dsX xs k = z.2 from congrArg Prod.snd (dA_of hz8)]; exact ⟨hp.ch.below hs6.below, hp.pl.below hs6.below⟩)⟩ hFit hDf (hs6.at 1 rfl).lt (hs6.at 0 rfl).lt (hs6.at 2 rfl).lt (hs6.at 3 rfl).lt)).mono ?_
            rintro e u6 ⟨A9, c9, ys9, rfl, k1_, k2_, k3_, hb_6⟩
            refine ⟨_, rfl, hb_6, ?_⟩
            clear hs6
            refine al_end (ah_back hok4 hcl4 (fun w9 hs => ((hs.fewer 2 rfl).tail 4 rfl)) ?_)
            refine ah_one 7 rfl (by kernel_rfl) (fun hok5 hcl5 => ?_)
            refine al_p (q_assign rfl) ?_
            refine al_end (ah_back hok5 hcl5 (fun w9 hs => ((hs.fewer 2 rfl).tail 4 rfl)) ?_)
            refine ah_one 8 rfl (by kernel_rfl) (fun hok6 hcl6 => ?_)
            refine al_p (q_assign rfl) ?_
            refine al_end (ah_last (by kernel_rfl) ?_)
            refine aq_then ?_
            refine aq_keepL [6, 7] (.cons rfl (.cons rfl .nil)) ?_
            refine ac_ret ?_
            refine ret2 Tryz.results14 rfl rfl (fun w9 hs => ?_)
            have hL : runL M S xs = (List.range (n + 1)).map (stepsD M S (dsX xs)) := by rw [runL, if_pos hE, n1]
            rw [hE, hL]
            exact outSS_late hs (.head _) hz hs.below k1_ k2_ k3_

end Go.Proofs.YtkhahbnagbjbiaaGreat
end
