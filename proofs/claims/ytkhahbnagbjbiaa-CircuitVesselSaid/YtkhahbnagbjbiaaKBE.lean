import Derived.Test.YtkhahbnagbjbiaaKAM
import Derived.Test.YtkhahbnagbjbiaaKBD
import Derived.Test.YtkhahbnagbjbiaaRows
import Derived.KernelRfl
import Derived.Laws.StructEq
section
/- Package circuit: Applied, Induced, Quench, over this seat's translation (written by ax_ci20.py). -/
namespace Go.Proofs.Ytkhahbnagbjbiaa
set_option linter.unusedVariables false
set_option linter.unusedSimpArgs false
open Go.RowKit

def OutL (w : World) (k : Int) (zs : List Int) (e : Ending) (w' : World) : Prop :=
  ∃ (A : Option Addr) (n c : Nat), e = .returned (.tuple #[.slice A n c, .int .i64 k]) ∧ IsT 1 intCells w' A n (if k = 0 then zs else []) ∧ (∀ b o, A = some ⟨b, o, none⟩ → w.heap.size ≤ b) ∧ n ≤ 1000000 ∧ Below w.heap.size w w'
theorem OutL.bad {w w' : World} {k : Int} {zs : List Int} (hk : k ≠ 0) (hb : Below w.heap.size w w') : OutL w k zs (.returned (.tuple #[.slice none 0 0, .int .i64 k])) w' :=
  ⟨none, 0, 0, rfl, by rw [if_neg hk]; exact ⟨rfl, fun h => absurd h (by omega)⟩, (fun b o e => by cases e), by omega, hb⟩
theorem OutL.ok {w w' : World} {A : Option Addr} {n c : Nat} {zs : List Int} (hN : NewT 1 intCells w.heap.size w' A n c zs) (hn : n ≤ 1000000) (hb : Below w.heap.size w w') : OutL w 0 zs (.returned (.tuple #[.slice A n c, .int .i64 0])) w' :=
  ⟨A, n, c, rfl, by rw [if_pos rfl]; exact hN.isT, hN.new, hn, hb⟩
def indE (M : MachD) (S : StD) (co pl : List Int) : Int := if validS M S = true ∧ validC M ⟨co, zerosI M.shells.length, pl⟩ = true then 0 else 1
set_option maxRecDepth 100000 in
theorem cinduced_any (R : MachR) (M : MachD) (RS : StR) (S : StD) (A1 A2 : Option Addr) (l1 c1 l2 c2 : Nat) (ch pl : List Int) (w : World) (hM : IsM w R M) (hS : IsS w RS S) (i1 : IsT 1 intCells w A1 l1 ch) (i2 : IsT 1 intCells w A2 l2 pl) (k1 : l1 ≤ c1 ∧ c1 ≤ 9223372036854775807) (k2 : l2 ≤ c2 ∧ c2 ≤ 9223372036854775807) : Calls Try.prog 7 #[(.agg (machCells R M)), (RS.v S.tick), (.slice A1 l1 c1), (.slice A2 l2 c2)] w (OutL w (indE M S ch pl) (indL M ch (subL pl S.C.plasma))) := by
  refine calls_ax (vs := [(.agg (machCells R M)), (RS.v S.tick), (.slice A1 l1 c1), (.slice A2 l2 c2)]) Try.func7 rfl rfl ?_
  refine ac_seq ?_
  refine ac_region ?_
  refine al_new (fun b => .pointer (some ⟨b, 0, none⟩)) (r_box rfl rfl) rfl rfl rfl ?_
  intro b1
  refine al_new (fun b => .pointer (some ⟨b, 0, none⟩)) (r_box rfl rfl) rfl rfl rfl ?_
  intro b2
  refine al_q (q_assign rfl) rfl rfl rfl ?_
  refine al_q (q_assign rfl) rfl rfl rfl ?_
  refine al_end ?_
  refine aq_then ?_
  refine ac_seq ?_
  refine ac_seq ?_
  refine ac_region ?_
  refine al_q (q_loadAll (i := 1) rfl rfl Try.isAgg29 Try.sizeOf29 rfl) rfl rfl rfl ?_
  refine al_q (q_loadAll (i := 0) rfl rfl Try.isAgg35 Try.sizeOf35 rfl) rfl rfl rfl ?_
  refine al_call Try.call17 (.cons rfl (.cons rfl .nil)) rfl rfl (fun w1 hs1 => ?_)
  refine (validState_any R M RS S _ (hM.below hs1.below) (hS.below hs1.below)).mono ?_
  rintro e u1 ⟨rfl, hb_1⟩
  refine ⟨_, rfl, hb_1, ?_⟩
  clear hs1
  refine al_q (q_not rfl) rfl rfl rfl ?_
  refine al_q (q_move rfl) rfl rfl rfl ?_
  refine aq_split 14 rfl (fun hb1 => ?_) (fun hb1 => ?_)
  · have hE : indE M S ch pl = 1 := if_neg (fun h => by rw [h.1] at hb1; cases hb1)
    refine al_skip rfl rfl rfl ?_
    refine al_skip rfl rfl rfl ?_
    refine al_skip rfl rfl rfl ?_
    refine al_skip rfl rfl rfl ?_
    refine al_skip rfl rfl rfl ?_
    refine al_q (q_pickT rfl rfl) rfl rfl rfl ?_
    refine al_end ?_
    refine aq_then ?_
    refine ac_condT rfl ?_
    refine ac_seq ?_
    refine ac_region ?_
    refine al_q (q_assign rfl) rfl rfl rfl ?_
    refine al_q (q_assign rfl) rfl rfl rfl ?_
    refine al_end ?_
    refine aq_then ?_
    refine ac_ret ?_
    refine aq_thenR ?_
    refine ret2 Try.results7 rfl rfl (fun w9 hs => ?_)
    rw [hE]; exact OutL.bad (by decide) hs.below
  · have hv : validS M S = true := by simpa using hb1
    have hf := fitS_iff.1 hv
    have hc := hf.cur.check
    obtain ⟨s1, s2⟩ := smallC hM hc
    refine al_q (q_loadAll (i := 1) rfl rfl Try.isAgg29 Try.sizeOf29 rfl) rfl rfl rfl ?_
    refine al_q (q_move rfl) rfl rfl rfl ?_
    refine al_q (q_move rfl) rfl rfl rfl ?_
    refine al_call Try.call18 (.cons rfl (.cons rfl (.cons rfl .nil))) rfl rfl (fun w2 hs2 => ?_)
    refine (validSources_any R M A1 A2 l1 c1 l2 c2 ch pl _ (hM.below hs2.below) (i1.below hs2.below) (i2.below hs2.below) k1 k2 (by omega)).mono ?_
    rintro e u2 ⟨rfl, hb_2⟩
    refine ⟨_, rfl, hb_2, ?_⟩
    clear hs2
    refine al_q (q_not rfl) rfl rfl rfl ?_
    refine al_q (q_pickF rfl rfl) rfl rfl rfl ?_
    refine al_end ?_
    refine aq_then ?_
    refine ac_cond rfl (fun h1 => ?_) (fun h1 => ?_)
    · have hE : indE M S ch pl = 1 := if_neg (fun h => by rw [h.2] at h1; cases h1)
      refine ac_seq ?_
      refine ac_region ?_
      refine al_q (q_assign rfl) rfl rfl rfl ?_
      refine al_q (q_assign rfl) rfl rfl rfl ?_
      refine al_end ?_
      refine aq_then ?_
      refine ac_ret ?_
      refine aq_thenR ?_
      refine ret2 Try.results7 rfl rfl (fun w9 hs => ?_)
      rw [hE]; exact OutL.bad (by decide) hs.below
    · have hd0 : validC M ⟨ch, zerosI M.shells.length, pl⟩ = true := by simpa using h1
      have hd := validSrc_iff.1 hd0
      have hE : indE M S ch pl = 0 := if_pos ⟨hv, hd0⟩
      have hd1 := validCh_iff.1 hd.1
      have n1 := hM.coils.1
      have n2 := i1.1
      have n3 := i2.1
      have n4 := hd.2.plasma.1
      have n5 := hf.cur.plasma.1
      have n6 := hS.cur.plasma.1
      have n7 := cellN_bd hc
      have n8 : (cellN M : Int) = M.grid.nr * M.grid.nz := by unfold cellN at n7 ⊢; omega
      have hdd : ∀ y ∈ ch ++ subL pl S.C.plasma, -2000000 ≤ y ∧ y ≤ 2000000 := fun y hy => (List.mem_append.1 hy).elim (fun h => by have := hd1.2 y h; omega) (fun h => by have := sub_all hf hd.2 y h; omega)
      refine ac_skip ?_
      refine aq_then ?_
      refine ac_seq ?_
      refine ac_draw 10 (by kernel_rfl) (by kernel_rfl) ?_
      refine ah_take 0 (fun w9 hs => hs) rfl rfl rfl (by kernel_rfl) (by kernel_rfl) (by kernel_rfl) (fun _ _ _ h => h) rfl (q_loadAll (i := 1) rfl rfl Try.isAgg29 Try.sizeOf29 rfl) ?_
      refine ah_take 2 (fun w9 hs => hs) rfl rfl rfl (by kernel_rfl) (by kernel_rfl) (by kernel_rfl) (fun _ _ _ h => h) rfl (q_move rfl) ?_
      refine ah_take 3 (fun w9 hs => hs) rfl rfl rfl (by kernel_rfl) (by kernel_rfl) (by kernel_rfl) (fun _ _ _ h => h) rfl (q_move rfl) ?_
      refine ah_take 4 (fun w9 hs => hs) rfl rfl rfl (by kernel_rfl) (by kernel_rfl) (by kernel_rfl) (fun _ _ _ h => h) rfl (q_fieldAddr 1 rfl Try.runUnderlying35 rfl Try.sizeOf32 (by decide) rfl) ?_
      refine ah_take 5 (fun w9 hs => hs) rfl rfl rfl (by kernel_rfl) (by kernel_rfl) (by kernel_rfl) (fun _ _ _ h => h) rfl (q_fieldAddr 3 rfl Try.runUnderlying32 rfl Try.sizeOf30 (by decide) rfl) ?_
      refine ah_take 6 (fun w9 hs => hs) rfl rfl rfl (by kernel_rfl) (by kernel_rfl) (by kernel_rfl) (fun _ _ _ h => h) rfl (q_load (i := 0) rfl rfl rfl Try.isAgg30) ?_
      refine ah_one 1 rfl (by kernel_rfl) (fun hok1 hcl1 => ?_)
      refine al_call Try.call19 (.cons rfl .nil) rfl rfl (fun w3 hs3 => ?_)
      refine (newCircuit_any R M _ (hM.below hs3.below) hc).mono ?_
      rintro e u3 ⟨Lk, cl, rows, rfl, NK, hb_3⟩
      refine ⟨_, rfl, hb_3, ?_⟩
      clear hs3
      refine al_end (ah_back hok1 hcl1 (fun w9 hs => (hs.fewer 1 rfl)) ?_)
      refine ah_one 7 rfl (by kernel_rfl) (fun hok2 hcl2 => ?_)
      refine al_call Try.call21 (.cons rfl (.cons rfl .nil)) rfl rfl (fun w4 hs4 => ?_)
      refine (differences_any A2 RS.Q.C l2 c2 RS.Q.lc RS.Q.cc pl S.C.plasma _ (i2.below hs4.below) (hS.cur.plasma.below hs4.below) (by omega) (by omega) (fun y hy => by have := hd.2.plasma.2 y hy; omega) (fun y hy => by have := hf.cur.plasma.2 y hy; omega)).mono ?_
      rintro e u4 ⟨A8, c8, rfl, N8, hb_4⟩
      refine ⟨_, rfl, hb_4, ?_⟩
      clear hs4
      refine al_end (ah_back hok2 hcl2 (fun w9 hs => (hs.fewer 2 rfl)) ?_)
      refine ah_one 8 rfl (by kernel_rfl) (fun hok3 hcl3 => ?_)
      refine al_call Try.call20 (.cons rfl (.cons rfl (.cons rfl .nil))) rfl rfl (fun w5 hs5 => ?_)
      refine (induced_any R M Lk cl rows A1 A8 l1 c1 l2 c8 ch (subL pl S.C.plasma) _ (hM.below hs5.below) hc (hs5.isK (.tail _ (.head _)) NK) (i1.below hs5.below) (hs5.newT (.head _) N8) (by omega) (by unfold cellN; omega) hdd).mono ?_
      rintro e u5 ⟨A9, c9, rfl, N9, hb_5⟩
      refine ⟨_, rfl, hb_5, ?_⟩
      clear hs5
      refine al_end (ah_back hok3 hcl3 (fun w9 hs => (hs.fewer 3 rfl)) ?_)
      refine ah_one 9 rfl (by kernel_rfl) (fun hok4 hcl4 => ?_)
      refine al_q (q_assign rfl) rfl rfl rfl ?_
      refine al_end (ah_back hok4 hcl4 (fun w9 hs => (hs.fewer 3 rfl)) ?_)
      refine ah_one 10 rfl (by kernel_rfl) (fun hok5 hcl5 => ?_)
      refine al_q (q_assign rfl) rfl rfl rfl ?_
      refine al_end (ah_last (by kernel_rfl) ?_)
      refine aq_then ?_
      refine ac_ret ?_
      refine ret2 Try.results7 rfl rfl (fun w9 hs => ?_)
      rw [hE]; exact OutL.ok (hs.newT2 (.head _) N9) (by omega) hs.below

end Go.Proofs.Ytkhahbnagbjbiaa
end
section
/- Settle on both sides, over this seat's translation (written by ax_ci16.py). -/
namespace Go.Proofs.Ytkhahbnagbjbiaa
set_option linter.unusedVariables false
set_option linter.unusedSimpArgs false
open Go.RowKit

theorem lost_in {n m : Int} (hn : -1000000 ≤ n ∧ n ≤ 1000000) (hm : 1 ≤ m ∧ m ≤ 1000) : -1000000 ≤ n - lostI n m ∧ n - lostI n m ≤ 1000000 ∧ -1000000 ≤ lostI n m ∧ lostI n m ≤ 1000000 := by
  have := lost_bd (cur := n) hm
  omega

end Go.Proofs.Ytkhahbnagbjbiaa
end
section
/- Coasting without currents; calm, over this seat's translation (written by ax_ci17.py). -/
namespace Go.Proofs.Ytkhahbnagbjbiaa
set_option linter.unusedVariables false
set_option linter.unusedSimpArgs false
open Go.RowKit

theorem appI_still {c : CoilD} (hc : Coil2 c) {cur : Int} (h : -c.cur ≤ cur ∧ cur ≤ c.cur) : appI c cur 0 false = 0 := by
  have := hc.step
  have := hc.cur
  unfold appI cutI
  rw [if_neg (by decide)]
  omega
theorem iA_zero {l : List Int} (h : ∀ y ∈ l, y = 0) (k : Nat) : iA l k = 0 := by
  rcases Nat.lt_or_ge k l.length with g | g
  · exact h _ (iA_mem g)
  · exact iA_out g
theorem dotTo_zero {f : Nat → Int} : ∀ n : Nat, (∀ k, k < n → f k = 0) → dotTo f n = 0
  | 0, _ => rfl
  | n + 1, h => by simp only [dotTo]; rw [dotTo_zero n (fun k hk => h k (by omega)), h n (by omega)]; rfl
theorem indA_zero {M : MachD} {co ce : List Int} (h1 : ∀ y ∈ co, y = 0) (h2 : ∀ y ∈ ce, y = 0) (i : Nat) : indA M co ce i = 0 := by
  unfold indA
  rw [dotTo_zero _ (fun k hk => by
    unfold termA
    rw [iA_zero (fun y hy => (List.mem_append.1 hy).elim (h1 y) (h2 y)), Int.mul_zero]), Int.zero_tdiv]
theorem subL_self (l : List Int) : ∀ y ∈ subL l l, y = 0 := lst_all.2 fun k hk => by omega
theorem iA_zeros (n k : Nat) : iA (zerosI n) k = 0 := iA_zero (fun y hy => (List.mem_replicate.1 hy).2) k
/-- a tick that asks for nothing, where no coil moves -/
theorem calm_step {M : MachD} {S : StD} (hf : FitS M S) (h0 : ∀ k, k < M.coils.length → appA M S (zerosI M.coils.length) k = 0) : (∀ k, k < M.coils.length → iA (stepD M S (zerosI M.coils.length) S.C.plasma).C.coils k = iA S.C.coils k) ∧ (∀ k, k < M.shells.length → iA (stepD M S (zerosI M.coils.length) S.C.plasma).C.shells k = iA S.C.shells k - lostI (iA S.C.shells k) (sA M k).loss) := by
  refine ⟨fun k hk => ?_, fun k hk => ?_⟩
  · simp only [stepD]; rw [iA_lst _ hk, coilN, h0 k hk]; omega
  · simp only [stepD]
    rw [iA_lst _ hk, shellN, indA_zero (co := appL M S (zerosI M.coils.length)) (fun y hy => (lst_all (p := fun y => y = 0)).2 h0 y hy) (subL_self _)]
    have := lost_in (n := iA S.C.shells k) (hf.cur.shells.2 _ (iA_mem (by rw [hf.cur.shells.1]; exact hk))) (sA_ok hf.cur.check hk).loss
    unfold cutI; omega
end Go.Proofs.Ytkhahbnagbjbiaa
end
section
/- Abstract walking: drawn regions in which several operations make memory: what is done, in whatever order, is walked once. -/
namespace Go.Proofs.Ytkhahbnagbjbiaa
set_option linter.unusedVariables false
set_option linter.unusedSimpArgs false
set_option autoImplicit false
open Go.RowKit

inductive Ins (x : Nat × Cont) : Boxes → Boxes → Prop
  | here {L : Boxes} : Ins x L (x :: L)
  | there {y : Nat × Cont} {L L' : Boxes} (h : Ins x L L') : Ins x (y :: L) (y :: L')
theorem Ins.perm {x : Nat × Cont} {L L' : Boxes} (h : Ins x L L') : L'.Perm (x :: L) := by
  induction h with
  | here => exact List.Perm.refl _
  | there h ih => exact (List.Perm.cons _ ih).trans (List.Perm.swap _ _ _)
/-- the second list holds the first one's boxes in another order -/
inductive Pm : Boxes → Boxes → Prop
  | refl {L : Boxes} : Pm L L
  | cons {x : Nat × Cont} {M L L' : Boxes} (h : Ins x L L') (t : Pm M L) : Pm (x :: M) L'
theorem Pm.perm {M L : Boxes} (h : Pm M L) : L.Perm M := by
  induction h with
  | refl => exact List.Perm.refl _
  | cons h t ih => exact h.perm.trans (List.Perm.cons _ ih)
theorem Sta.pm {E : Cfg} {U : Snaps} {L M : Boxes} {w : World} (h : Sta E U L w) (hp : Pm M L) : Sta E U M w := h.perm hp.perm

section
variable {P : Program} {e0 : Cfg} {U : Snaps} {l : Slots} {L : Boxes} {ops : Array Oper} {Q : Exit → Act → World → Prop} {U0 : Snaps} {L0 : Boxes} {last fuel : Nat} {listed : Array Bool}
/-- a place in the region that is reached in several orders is walked once -/
theorem ah_share {fuel' : Nat} {listed' : Array Bool} (K : (Slots → Boxes → Prop) → Prop) (h1 : K (fun l' L' => AH P ops Q U0 L0 last fuel' listed' e0 U l' L'))
    (h2 : K (fun l' L' => AH P ops Q U0 L0 last fuel' listed' e0 U l' L') → AH P ops Q U0 L0 last fuel listed e0 U l L) : AH P ops Q U0 L0 last fuel listed e0 U l L := h2 h1
theorem ah_to {fuel' : Nat} {listed' : Array Bool} {l' : Slots} {L' : Boxes} (h : AH P ops Q U0 L0 last fuel' listed' e0 U l' L') (hf : fuel' = fuel) (he : listed' = listed) (hl : AllLook l l') (hL : ∀ w, Sta e0 U L w → Sta e0 U L' w) : AH P ops Q U0 L0 last fuel listed e0 U l L := by
  subst hf; subst he
  exact fun hok hc => aq_sub (h hok hc) hl hL
theorem ah_four {o o' o'' o3 : Oper} (i i' i'' i3 : Nat) (hi : ops[i]? = some o) (hi' : ops[i']? = some o') (hi'' : ops[i'']? = some o'') (hi3 : ops[i3]? = some o3) (hr : Region.ready .any ops listed = [i, i', i'', i3])
    (k : lastOk ops last = true → DrawnTo ops (listed.setIfInBounds i true) → AL P ops (Exit.then (KH P ops Q e0 U0 L0 last fuel i listed) Q) e0 U l L [o]) (k' : lastOk ops last = true → DrawnTo ops (listed.setIfInBounds i' true) → AL P ops (Exit.then (KH P ops Q e0 U0 L0 last fuel i' listed) Q) e0 U l L [o']) (k'' : lastOk ops last = true → DrawnTo ops (listed.setIfInBounds i'' true) → AL P ops (Exit.then (KH P ops Q e0 U0 L0 last fuel i'' listed) Q) e0 U l L [o'']) (k3 : lastOk ops last = true → DrawnTo ops (listed.setIfInBounds i3 true) → AL P ops (Exit.then (KH P ops Q e0 U0 L0 last fuel i3 listed) Q) e0 U l L [o3]) : AH P ops Q U0 L0 last (fuel + 1) listed e0 U l L := by
  intro hok hc a w hfr hst
  refine ⟨fun h => (by rw [hr] at h; cases h), fun j hj => ?_⟩
  have hj' := hj
  rw [hr] at hj
  rcases List.mem_cons.1 hj with rfl | hj
  · exact wpOp_of_list hi (k hok (hc.step hj') a w hfr hst)
  · rcases List.mem_cons.1 hj with rfl | hj
    · exact wpOp_of_list hi' (k' hok (hc.step hj') a w hfr hst)
    · rcases List.mem_cons.1 hj with rfl | hj
      · exact wpOp_of_list hi'' (k'' hok (hc.step hj') a w hfr hst)
      · obtain rfl : j = i3 := by simpa using hj
        exact wpOp_of_list hi3 (k3 hok (hc.step hj') a w hfr hst)
end

end Go.Proofs.Ytkhahbnagbjbiaa
end
section
/- Abstract walking: a drawn region that fills several own boxes from values known before (x, y, z := a.X, a.Y, a.Z), in whatever order. -/
namespace Go.Proofs.Ytkhahbnagbjbiaa
set_option linter.unusedVariables false
set_option linter.unusedSimpArgs false
set_option autoImplicit false
open Go.RowKit

/-- a box that is made by operation ia, known in slot t, empty (z), and filled (f) by operation ib -/
structure Chn where
  (ia ib t : Nat) (z f : List Value)
abbrev Ph := Option (Nat × Bool)
def Chn.box (c : Chn) : Ph → Boxes
  | none => []
  | some (b, false) => [(b, .cells c.z)]
  | some (b, true) => [(b, .cells c.f)]
abbrev Phs := List (Chn × Ph)
def Apt (c d : Chn) : Prop := c.ia ≠ d.ia ∧ c.ia ≠ d.ib ∧ c.ib ≠ d.ia ∧ c.ib ≠ d.ib ∧ c.t ≠ d.t
theorem Apt.symm {c d : Chn} (h : Apt c d) : Apt d c := ⟨h.1.symm, h.2.2.1.symm, h.2.1.symm, h.2.2.2.1.symm, h.2.2.2.2.symm⟩

section
variable {P : Program} {e0 : Cfg} {U : Snaps} {ops : Array Oper} {Q : Exit → Act → World → Prop} {l0 : Slots} {L0 : Boxes}
/-- operations wait for nothing but what is listed and the box's making -/
def waits (ops : Array Oper) (listed : Array Bool) (j : Nat) (k : Option Nat) : Bool := match ops[j]? with
  | some o => o.after.all fun e => !Region.binds .any e || listed.getD e.on false || k == some e.on
  | none => false
structure Lis (ops : Array Oper) (base listed : Array Bool) (s : Phs) : Prop where
  size : listed.size = ops.size
  base : ∀ j, base.getD j false = true → listed.getD j false = true
  ch : ∀ x ∈ s, listed.getD x.1.ia false = x.2.isSome ∧ listed.getD x.1.ib false = (match x.2 with | some (_, true) => true | _ => false)
  rest : ∀ j, j < ops.size → (∀ x ∈ s, j ≠ x.1.ia ∧ j ≠ x.1.ib) → listed.getD j false = true
theorem getD_put {listed : Array Bool} {i j : Nat} : (listed.setIfInBounds i true).getD j false = if i = j ∧ i < listed.size then true else listed.getD j false := by
  simp only [Array.getD_eq_getD_getElem?, Array.getElem?_setIfInBounds]
  by_cases h : i = j
  · subst h
    by_cases g : i < listed.size
    · simp [g]
    · simp [g]
  · simp [h]
theorem Lis.put {base listed : Array Bool} {S1 S2 : Phs} {c : Chn} {p q : Ph} {i : Nat} (h : Lis ops base listed (S1 ++ (c, p) :: S2)) (hi : i < ops.size) (hap : ∀ x, x ∈ S1 ∨ x ∈ S2 → Apt c x.1) (hne : c.ia ≠ c.ib)
    (hq : (i = c.ia ∧ p = none ∧ ∃ b, q = some (b, false)) ∨ (i = c.ib ∧ ∃ b, p = some (b, false) ∧ q = some (b, true))) : Lis ops base (listed.setIfInBounds i true) (S1 ++ (c, q) :: S2) := by
  have hsz := h.size
  have mem : ∀ x, x ∈ S1 ∨ x ∈ S2 → x ∈ S1 ++ (c, p) :: S2 := fun x hx => by simp only [List.mem_append, List.mem_cons]; rcases hx with g | g <;> simp [g]
  refine ⟨by simp [hsz], fun j hj => by rw [getD_put]; split; rfl; exact h.base j hj, fun x hx => ?_, fun j hj hall => ?_⟩
  · have hx' : x = (c, q) ∨ (x ∈ S1 ∨ x ∈ S2) := by simp only [List.mem_append, List.mem_cons] at hx; rcases hx with g | g | g <;> simp [g]
    rcases hx' with rfl | hx'
    · have hc := h.ch (c, p) (by simp)
      simp only at hc ⊢
      rcases hq with ⟨rfl, rfl, b, rfl⟩ | ⟨rfl, b, rfl, rfl⟩
      · rw [getD_put, getD_put, if_pos ⟨rfl, by omega⟩, if_neg (fun g => hne g.1)]
        exact ⟨rfl, hc.2⟩
      · rw [getD_put, getD_put, if_neg (fun g => hne g.1.symm), if_pos ⟨rfl, by omega⟩]
        exact ⟨hc.1, rfl⟩
    · have ha := hap x hx'
      have hc := h.ch x (mem x hx')
      rw [getD_put, getD_put]
      rcases hq with ⟨rfl, -, -⟩ | ⟨rfl, -, -⟩
      · rw [if_neg (fun g => ha.1 g.1), if_neg (fun g => ha.2.1 g.1)]; exact hc
      · rw [if_neg (fun g => ha.2.2.1 g.1), if_neg (fun g => ha.2.2.2.1 g.1)]; exact hc
  · rw [getD_put]
    split
    · rfl
    · refine h.rest j hj fun x hx => ?_
      have hx' : x = (c, p) ∨ (x ∈ S1 ∨ x ∈ S2) := by simp only [List.mem_append, List.mem_cons] at hx; rcases hx with g | g | g <;> simp [g]
      rcases hx' with rfl | hx'
      · exact hall (c, q) (by simp)
      · exact hall x (by simp only [List.mem_append, List.mem_cons]; rcases hx' with g | g <;> simp [g])
theorem q_negW {xt : TypeId} {ox : Operand} {x : Int} {ty : TypeId} {pos : String} {af : Array Edge} {g : Option (Nat × Bool)} {dd : Option Nat} {l : Slots} {L : Boxes} (hx : E l ox = some (.int .i64 x)) : Q1 P e0 U l L ⟨dd, .unOp .neg xt ox, ty, pos, af, g⟩ (.int .i64 (wrap64 (-x))) := by
  intro a w hf hs
  simp [execOp, hf.ev hx, Op.unary, Op.intArith, IntKind.wrap_i64, wrap64]
end

end Go.Proofs.Ytkhahbnagbjbiaa
end
