import Derived.Test.YtapldonpflgnfaaDoorMAM
import Derived.Test.YtapldonpflgnfaaDoorMAP
import Derived.Test.YtapldonpflgnfaaDoorMAQ
import Derived.Test.YtapldonpflgnfaaDoorMAS
import Derived.Test.YtapldonpflgnfaaDoorMAX
import Derived.Test.YtapldonpflgnfaaDoorRows
import Derived.KernelRfl
import Derived.Laws.StructEq
import Derived.Laws.IdiomCopy
import Derived.RangeFuncNested
import Derived.RangeFuncLeaves
import Derived.RangeFuncBound
namespace Go.Proofs.YtapldonpflgnfaaDoor
set_option linter.unusedVariables false
set_option linter.unusedSimpArgs false
section
open Go.RowKit
def effD (k v n : Int) : Int := if k = 1 then v + n else if k = 2 then v * n / 1000 else 0
def clampF (v : Int) : Int := max (-500000000000000) (min v 500000000000000)
def faultGo (k t : Int) : List FaultD → Int → Int
  | [], v => v
  | f :: r, v => faultGo k t r (if f.sensor = k ∧ f.at_ ≤ t then clampF (effD f.kind v f.n) else v)
theorem faultGo_drop {k t : Int} {zs : List FaultD} {j : Nat} {f : FaultD} (h : zs[j]? = some f) (v : Int) : faultGo k t (zs.drop j) v = faultGo k t (zs.drop (j + 1)) (if f.sensor = k ∧ f.at_ ≤ t then clampF (effD f.kind v f.n) else v) := by
  obtain ⟨hj, rfl⟩ := List.getElem?_eq_some_iff.1 h
  rw [List.drop_eq_getElem_cons hj]; rfl
theorem clampF_bd (v : Int) : -500000000000000 ≤ clampF v ∧ clampF v ≤ 500000000000000 := by unfold clampF; omega
theorem faultGo_bd (k t : Int) : ∀ (zs : List FaultD) (v B : Int), 500000000000000 ≤ B → -B ≤ v → v ≤ B → -B ≤ faultGo k t zs v ∧ faultGo k t zs v ≤ B
  | [], v, B, _, h1, h2 => ⟨h1, h2⟩
  | f :: r, v, B, h0, h1, h2 => by
    unfold faultGo
    have hc := clampF_bd (effD f.kind v f.n)
    split
    · exact faultGo_bd k t r _ B h0 (by omega) (by omega)
    · exact faultGo_bd k t r _ B h0 h1 h2
theorem faults_iff {M : MachD} {zs : List FaultD} (h : faultsB M zs = true) : zs.length ≤ 32 ∧ ∀ f ∈ zs, (1 ≤ f.kind ∧ f.kind ≤ 3) ∧ -1000000000000000 ≤ f.n ∧ f.n ≤ 1000000000000000 ∧ (f.kind = 2 → -100000 ≤ f.n ∧ f.n ≤ 100000) := by
  unfold faultsB at h
  rw [Bool.and_eq_true, Bool.and_eq_true, decide_eq_true_iff, decide_eq_true_iff, List.all_eq_true] at h
  refine ⟨h.2.1, fun f hf => ?_⟩
  have h1 := h.2.2 f hf
  unfold faultB at h1
  rw [Bool.and_eq_true, Bool.and_eq_true, Bool.and_eq_true] at h1
  have h2 := wthn_iff.1 h1.1
  have h3 := wthn_iff.1 h1.2.2.2
  refine ⟨h2, ?_⟩
  have h4 : mostK f.kind ≤ 1000000000000000 := by
    unfold mostK; split
    · omega
    · split <;> omega
  refine ⟨by omega, by omega, fun e => ?_⟩
  rw [e] at h3
  simp only [mostK] at h3
  simpa using h3
theorem fluxP_bdB (p : Int × Int) (B : Int) : ∀ (S : List Src), (∀ x ∈ S, -B ≤ x.2 ∧ x.2 ≤ B) → -(250000 * B * (S.length : Int)) ≤ fluxP p S ∧ fluxP p S ≤ 250000 * B * (S.length : Int)
  | [], _ => by simp [fluxP]
  | x :: r, h => by
    have h1 := fluxP_bdB p B r (fun y hy => h y (List.mem_cons_of_mem _ hy))
    have h2 := h x (by simp)
    have h3 := infl_bd p.1 p.2 x.1.1 x.1.2
    have h4 := mul_bd h3.1 h3.2 h2.1 h2.2
    have h5 : 250000 * B * ((r.length + 1 : Nat) : Int) = 250000 * B * (r.length : Int) + 250000 * B := by
      rw [Int.natCast_add, Int.mul_add]; simp
    simp only [fluxP, List.length_cons]
    rw [h5]
    omega
theorem fluxM_bd {M : MachD} {C : CurD} (h : Fit2 M C) (p : Int × Int) : -400000000000000 ≤ fluxP p (srcM M C) ∧ fluxP p (srcM M C) ≤ 400000000000000 := by
  have hs := sound_of h.check
  have hg := cells_fine hs.grid
  have e : srcM M C = List.zipWith (fun c x => ((c.r, c.z), c.turns * x)) M.coils C.coils ++ (List.zipWith (fun s x => ((s.r, s.z), x)) M.shells C.shells ++ cellSrc M.grid C.plasma C.plasma.length) := rfl
  rw [e, fluxP_append]
  have a := fluxP_bdB p 100000000 (List.zipWith (fun c x => ((c.r, c.z), c.turns * x)) M.coils C.coils) (fun x hx => by
    obtain ⟨k, hk, e⟩ := List.mem_iff_getElem.1 hx
    simp at e
    simp at hk
    have h1 := hs.coils.2 _ (List.getElem_mem (show k < M.coils.length by omega))
    have h2 := h.coils.2 _ (List.getElem_mem (show k < C.coils.length by omega))
    have h3 := mul_bd (show 0 ≤ M.coils[k].turns by omega) h1.1.2 h2.1 h2.2
    rw [← e]; dsimp only; omega)
  have b := fluxP_bdB p 1000000 (List.zipWith (fun s x => ((s.r, s.z), x)) M.shells C.shells ++ cellSrc M.grid C.plasma C.plasma.length) (fun x hx => by
    rcases List.mem_append.1 hx with hx | hx
    · obtain ⟨k, hk, e⟩ := List.mem_iff_getElem.1 hx
      simp at e
      simp at hk
      have h2 := h.shells.2 _ (List.getElem_mem (show k < C.shells.length by omega))
      rw [← e]; dsimp only; omega
    · unfold cellSrc at hx
      obtain ⟨k, hk, e⟩ := List.mem_map.1 hx
      rw [List.mem_range] at hk
      have h2 := h.plasma.2 _ (List.getElem_mem hk)
      rw [← e]; dsimp only
      rw [List.getElem?_eq_getElem hk]; simp only [Option.getD_some]; omega)
  have la : (List.zipWith (fun (c : CoilD) (x : Int) => ((c.r, c.z), c.turns * x)) M.coils C.coils).length ≤ 12 := by
    have := hs.coils.1; simp; omega
  have lb : (List.zipWith (fun (s : ShellD) (x : Int) => ((s.r, s.z), x)) M.shells C.shells ++ cellSrc M.grid C.plasma C.plasma.length).length ≤ 80 := by
    have := hs.shells.1; have := h.plasma.1; simp [cellSrc]; omega
  omega
theorem exactL_bd (M : MachD) (C : CurD) (i : Int) : -1000000000000000 ≤ (exactL M C i).1 ∧ (exactL M C i).1 ≤ 1000000000000000 := by
  unfold exactL
  by_cases hv : validC M C = true
  · rw [if_pos hv]
    split
    · split
      · rename_i x _
        have q := fluxM_bd (fit2_iff.1 hv)
        have a := q (x.r, x.z)
        have b := q (x.r, x.z - 1)
        have c := q (x.r, x.z + 1)
        have d := q (x.r + 1, x.z)
        have e := q (x.r - 1, x.z)
        unfold sensP fieldP
        split
        · omega
        · split
          · dsimp only; omega
          · dsimp only; omega
      · simp
    · simp
  · rw [if_neg hv]; simp
theorem mx1_lt (h v : Nat) : mx1 h v < 4294967296 := by
  unfold mx1
  exact xor32 (Nat.mod_lt _ (by omega)) (Nat.lt_of_le_of_lt (Nat.div_le_self _ _) (Nat.mod_lt _ (by omega)))
theorem mixN_lt (s a b : Nat) : mixN s a b < 4294967296 := mx1_lt _ _
def rdF (M : MachD) (C : CurD) (zs : List FaultD) (sd tn k : Nat) : SpanD :=
  ⟨faultGo k tn zs (exactL M C k).1 + ((mixN sd tn k : Int).tmod (2 * (M.sensors.getD k ⟨⟨#[]⟩, 0, 0, 0, 0⟩).error + 1) - (M.sensors.getD k ⟨⟨#[]⟩, 0, 0, 0, 0⟩).error) - (M.sensors.getD k ⟨⟨#[]⟩, 0, 0, 0, 0⟩).error,
   faultGo k tn zs (exactL M C k).1 + ((mixN sd tn k : Int).tmod (2 * (M.sensors.getD k ⟨⟨#[]⟩, 0, 0, 0, 0⟩).error + 1) - (M.sensors.getD k ⟨⟨#[]⟩, 0, 0, 0, 0⟩).error) + (M.sensors.getD k ⟨⟨#[]⟩, 0, 0, 0, 0⟩).error⟩
theorem tdiv_thou (v : Int) : (-(max v (-v)) ≤ 1000 * v.tdiv 1000 ∧ 1000 * v.tdiv 1000 ≤ max v (-v)) ∧ -1000 ≤ v.tmod 1000 ∧ v.tmod 1000 ≤ 1000 := by
  have h := Int.mul_tdiv_add_tmod v 1000
  rcases Int.le_total 0 v with h0 | h0
  · have e := Int.tdiv_eq_ediv_of_nonneg (b := 1000) h0
    rw [e] at h ⊢
    omega
  · have e := Int.tdiv_eq_ediv_of_nonneg (a := -v) (b := 1000) (by omega)
    rw [Int.neg_tdiv] at e
    have e2 : v.tdiv 1000 = -(-v / 1000) := by omega
    rw [e2] at h ⊢
    omega
theorem gain_floor (v n : Int) : v.tdiv 1000 * n + flo (v.tmod 1000 * n) 1000 = v * n / 1000 := by
  have h : v * n = 1000 * (v.tdiv 1000 * n) + v.tmod 1000 * n := by
    conv => lhs; rw [← Int.mul_tdiv_add_tmod v 1000]
    rw [Int.add_mul, Int.mul_assoc]
  unfold flo
  rw [if_pos (by omega), h]
  omega
theorem mul_bd5 {a b A B : Int} (a0 : -A ≤ a) (a1 : a ≤ A) (b0 : -B ≤ b) (b1 : b ≤ B) : -(A * B) ≤ a * b ∧ a * b ≤ A * B := by
  have hA : 0 ≤ A := by omega
  have hB : 0 ≤ B := by omega
  have h1 : (A - a) * (B + b) ≥ 0 := Int.mul_nonneg (by omega) (by omega)
  have h2 : (A + a) * (B - b) ≥ 0 := Int.mul_nonneg (by omega) (by omega)
  have h3 : (A - a) * (B - b) ≥ 0 := Int.mul_nonneg (by omega) (by omega)
  have h4 : (A + a) * (B + b) ≥ 0 := Int.mul_nonneg (by omega) (by omega)
  simp only [Int.sub_mul, Int.mul_sub, Int.add_mul, Int.mul_add] at h1 h2 h3 h4
  omega
section
variable {P : Program} {e0 : Cfg} {U : Snaps} {l : Slots} {L : Boxes}
theorem q_indexArr {s e b o i n z : Nat} {ii : Int} {k : IntKind} (o' : Nat) {ox oi : Operand} {ty : TypeId} {pos : String} {af : Array Edge} {g : Option (Nat × Bool)} {dd : Option Nat} (hx : E l ox = some (.pointer (some ⟨b, o, none⟩))) (hi : E l oi = some (.int k ii)) (hii : ii = (i : Int)) (hil : i < n) (hu : ∀ w, (underlying s).run P w = .ok (.array n e) w) (hz : ∀ w, (sizeOf e).run P w = .ok z w) (ho : o + i * z = o') : Q1 P e0 U l L ⟨dd, .indexAddr s ox oi, ty, pos, af, g⟩ (.pointer (some ⟨b, o', none⟩)) := by
  intro a w hf hs
  have ha : (⟨b, o, none⟩ : Addr).add (i * z) = ⟨b, o', none⟩ := by
    unfold Addr.add; split
    · rename_i h; rw [h] at ho; subst ho; rfl
    · subst ho; rfl
  subst hii
  have h0 : (0 : Int) ≤ (i : Int) ∧ (i : Int) < (n : Int) := ⟨by omega, by omega⟩
  simp [execOp, hf.ev hx, hf.ev hi, Instr.indexAt, asIntOf, Instr.sureAddr, hu, hz, h0, ha, hil]
end
set_option maxRecDepth 100000 in
theorem cgained_any (v n : Int) (w : World) (v0 : -51000000000000000 ≤ v) (v1 : v ≤ 51000000000000000) (n0 : -100000 ≤ n) (n1 : n ≤ 100000) : Calls Tryd.prog 67 #[(.int .i64 v), (.int .i64 n)] w (Ret (.int .i64 (v * n / 1000)) w) := by
  have hq : -51000000000000 ≤ v.tdiv 1000 ∧ v.tdiv 1000 ≤ 51000000000000 := by have := (tdiv_thou v).1; omega
  have hr : -1000 ≤ v.tmod 1000 ∧ v.tmod 1000 ≤ 1000 := by have := (tdiv_thou v).2; omega
  have hm1 := mul_bd5 (a := v.tdiv 1000) (b := n) (A := 51000000000000) (B := 100000) hq.1 hq.2 n0 n1
  have hm2 := mul_bd5 (a := v.tmod 1000) (b := n) (A := 1000) (B := 100000) hr.1 hr.2 n0 n1
  have hf := flo_bd (v.tmod 1000 * n) 1000 (by omega) (by omega) (by omega)
  refine calls_ax (vs := [(.int .i64 v), (.int .i64 n)]) Tryd.func67 rfl rfl ?_
  refine ac_seq (ac_region ?_)
  refine al_p (q_assign rfl) (al_end (aq_then ?_))
  refine ac_seq (ac_region ?_)
  refine al_p (q_move rfl) ?_
  refine al_p (q_quo rfl rfl (by omega)) (al_p (q_move rfl) ?_)
  refine al_p (q_mul rfl rfl (by omega)) (al_p (q_move rfl) ?_)
  refine al_p (q_rem rfl rfl (by omega)) (al_p (q_move rfl) ?_)
  refine al_p (q_mul rfl rfl (by omega)) (al_call Tryd.call46 (.cons rfl (.cons rfl .nil)) rfl rfl (fun w1 hs1 => ?_))
  refine (down_any (v.tmod 1000 * n) 1000 _ (by omega) (by omega) (by omega) (by omega) (by omega)).mono ?_
  rintro e u1 ⟨rfl, rfl⟩
  refine ⟨_, rfl, (Below.refl _ _), ?_⟩
  clear hs1
  refine al_p (q_add rfl rfl (by omega)) (al_p (q_assign rfl) (al_end (aq_then ?_)))
  refine ac_ret (ret1 Tryd.results67 rfl (fun w9 hs => ?_))
  refine ⟨?_, hs.below⟩; rw [gain_floor]
def effF (k : Int) : Nat := if k = 1 then 66 else if k = 2 then 67 else 68
theorem sra_bl_x194_1_2_3 (a0 a1 a2 : Value) (ha0 : a0.oneCell' = true) (ha1 : a1.oneCell' = true) (ha2 : a2.oneCell' = true) : ∀ w, (Instr.build 122 #[(1, a0), (2, a1), (3, a2)]).run Tryd.prog w = .ok (.agg #[.nilFunc, a0, a1, a2]) w := by
  have ea0 : a0.cells = #[a0] := cells_one ha0
  have ea1 : a1.cells = #[a1] := cells_one ha1
  have ea2 : a2.cells = #[a2] := cells_one ha2
  intro w; simp [Instr.build, Instr.fill, cells_agg, Tryd.runUnderlying122, Tryd.zeroValue122, Tryd.sizeOf67, ea0, ea1, ea2]
set_option maxRecDepth 100000 in
theorem effect_1 (w : World) : Calls Tryd.prog 35 #[.int .i64 1] w (Ret (.func (.func 66) #[] #[]) w) := by
  refine calls_ax (vs := [.int .i64 1]) Tryd.func35 rfl rfl ?_
  refine ac_seq (ac_region ?_)
  refine al_p (q_assign rfl) (al_end (aq_then ?_))
  refine ac_seq (ac_region ?_)
  refine al_p (q_build (.cons rfl (.cons rfl (.cons rfl .nil))) (sra_bl_x194_1_2_3 _ _ _ rfl rfl rfl)) (al_new (fun b => .pointer (some ⟨b, 0, none⟩)) (r_alloc Tryd.zeroValue122 rfl) rfl rfl rfl ?_)
  intro b1
  refine al_storeAll (i := 0) rfl rfl rfl rfl Tryd.sizeOf122 rfl rfl .k0 rfl (al_end (aq_then ?_))
  refine ac_seq (ac_region ?_)
  refine al_p (q_move rfl) ?_
  refine al_p (q_indexArr (i := 1) 1 rfl rfl rfl (by decide) Tryd.runUnderlying122 Tryd.sizeOf67 rfl) (al_p (q_load (i := 0) rfl rfl rfl Tryd.isAgg67) (al_p (q_assign rfl) (al_end (aq_then ?_))))
  refine ac_ret (ret1 Tryd.results35 rfl (fun w9 hs => ?_))
  exact ⟨rfl, hs.below⟩
set_option maxRecDepth 100000 in
theorem effect_2 (w : World) : Calls Tryd.prog 35 #[.int .i64 2] w (Ret (.func (.func 67) #[] #[]) w) := by
  refine calls_ax (vs := [.int .i64 2]) Tryd.func35 rfl rfl ?_
  refine ac_seq (ac_region ?_)
  refine al_p (q_assign rfl) (al_end (aq_then ?_))
  refine ac_seq (ac_region ?_)
  refine al_p (q_build (.cons rfl (.cons rfl (.cons rfl .nil))) (sra_bl_x194_1_2_3 _ _ _ rfl rfl rfl)) (al_new (fun b => .pointer (some ⟨b, 0, none⟩)) (r_alloc Tryd.zeroValue122 rfl) rfl rfl rfl ?_)
  intro b1
  refine al_storeAll (i := 0) rfl rfl rfl rfl Tryd.sizeOf122 rfl rfl .k0 rfl (al_end (aq_then ?_))
  refine ac_seq (ac_region ?_)
  refine al_p (q_move rfl) ?_
  refine al_p (q_indexArr (i := 2) 2 rfl rfl rfl (by decide) Tryd.runUnderlying122 Tryd.sizeOf67 rfl) (al_p (q_load (i := 0) rfl rfl rfl Tryd.isAgg67) (al_p (q_assign rfl) (al_end (aq_then ?_))))
  refine ac_ret (ret1 Tryd.results35 rfl (fun w9 hs => ?_))
  exact ⟨rfl, hs.below⟩
set_option maxRecDepth 100000 in
theorem effect_3 (w : World) : Calls Tryd.prog 35 #[.int .i64 3] w (Ret (.func (.func 68) #[] #[]) w) := by
  refine calls_ax (vs := [.int .i64 3]) Tryd.func35 rfl rfl ?_
  refine ac_seq (ac_region ?_)
  refine al_p (q_assign rfl) (al_end (aq_then ?_))
  refine ac_seq (ac_region ?_)
  refine al_p (q_build (.cons rfl (.cons rfl (.cons rfl .nil))) (sra_bl_x194_1_2_3 _ _ _ rfl rfl rfl)) (al_new (fun b => .pointer (some ⟨b, 0, none⟩)) (r_alloc Tryd.zeroValue122 rfl) rfl rfl rfl ?_)
  intro b1
  refine al_storeAll (i := 0) rfl rfl rfl rfl Tryd.sizeOf122 rfl rfl .k0 rfl (al_end (aq_then ?_))
  refine ac_seq (ac_region ?_)
  refine al_p (q_move rfl) ?_
  refine al_p (q_indexArr (i := 3) 3 rfl rfl rfl (by decide) Tryd.runUnderlying122 Tryd.sizeOf67 rfl) (al_p (q_load (i := 0) rfl rfl rfl Tryd.isAgg67) (al_p (q_assign rfl) (al_end (aq_then ?_))))
  refine ac_ret (ret1 Tryd.results35 rfl (fun w9 hs => ?_))
  exact ⟨rfl, hs.below⟩
set_option maxRecDepth 100000 in
theorem eff1_any (v n : Int) (w : World) (h0 : -9000000000000000000 ≤ v + n) (h1 : v + n ≤ 9000000000000000000) : Calls Tryd.prog 66 #[(.int .i64 v), (.int .i64 n)] w (Ret (.int .i64 (v + n)) w) := by
  refine calls_ax (vs := [(.int .i64 v), (.int .i64 n)]) Tryd.func66 rfl rfl ?_
  refine ac_seq (ac_region ?_)
  refine al_p (q_assign rfl) (al_end (aq_then ?_))
  refine ac_seq (ac_region ?_)
  refine al_p (q_move rfl) (al_p (q_move rfl) ?_)
  refine al_p (q_add rfl rfl (by omega)) (al_p (q_assign rfl) (al_end (aq_then ?_)))
  refine ac_ret (ret1 Tryd.results66 rfl (fun w9 hs => ?_))
  exact ⟨rfl, hs.below⟩
set_option maxRecDepth 100000 in
theorem eff3_any (v n : Int) (w : World) : Calls Tryd.prog 68 #[(.int .i64 v), (.int .i64 n)] w (Ret (.int .i64 0) w) := by
  refine calls_ax (vs := [(.int .i64 v), (.int .i64 n)]) Tryd.func68 rfl rfl ?_
  refine ac_seq (ac_region ?_)
  refine al_p (q_assign rfl) (al_end (aq_then ?_))
  refine ac_seq (ac_region ?_)
  refine al_p (q_assign rfl) (al_end (aq_then ?_))
  refine ac_ret (ret1 Tryd.results68 rfl (fun w9 hs => ?_))
  exact ⟨rfl, hs.below⟩
theorem three_ways {k : Int} (h : 1 ≤ k ∧ k ≤ 3) : k = 1 ∨ k = 2 ∨ k = 3 := by omega
theorem effect_any (k : Int) (w : World) (h : 1 ≤ k ∧ k ≤ 3) : Calls Tryd.prog 35 #[.int .i64 k] w (Ret (.func (.func (effF k)) #[] #[]) w) := by
  rcases three_ways h with rfl | rfl | rfl
  · exact effect_1 w
  · exact effect_2 w
  · exact effect_3 w
theorem effF_call (k : Int) : ∀ (args : Array Value) (w : World), (callFunc (effF k) args).run Tryd.prog w = .ok (.enter (effF k) args) w := by
  unfold effF
  split
  · exact Tryd.call66
  · split
    · exact Tryd.call67
    · exact Tryd.call68
theorem eff_any (k v n : Int) (w : World) (h : 1 ≤ k ∧ k ≤ 3) (v0 : -50000000000000000 ≤ v) (v1 : v ≤ 50000000000000000) (n0 : -1000000000000000 ≤ n) (n1 : n ≤ 1000000000000000) (hn : k = 2 → -100000 ≤ n ∧ n ≤ 100000) : Calls Tryd.prog (effF k) #[.int .i64 v, .int .i64 n] w (Ret (.int .i64 (effD k v n)) w) := by
  rcases three_ways h with rfl | rfl | rfl
  · exact eff1_any v n w (by omega) (by omega)
  · exact cgained_any v n w (by omega) (by omega) (hn rfl).1 (hn rfl).2
  · exact eff3_any v n w
set_option maxRecDepth 100000 in
theorem faulty_any (v k tk : Int) (F : Option Addr) (nf cf : Nat) (zs : List FaultD) (w : World) (hF : IsT 4 FaultD.cells w F nf zs) (hn : nf ≤ 1000) (v0 : -50000000000000000 ≤ v) (v1 : v ≤ 50000000000000000) (hfs : ∀ f ∈ zs, (1 ≤ f.kind ∧ f.kind ≤ 3) ∧ -1000000000000000 ≤ f.n ∧ f.n ≤ 1000000000000000 ∧ (f.kind = 2 → -100000 ≤ f.n ∧ f.n ≤ 100000)) : Calls Tryd.prog 14 #[(.int .i64 v), (.slice F nf cf), (.int .i64 k), (.int .i64 tk)] w (Ret (.int .i64 (faultGo k tk zs v)) w) := by
  have e1 := hF.1
  refine calls_ax (vs := [(.int .i64 v), (.slice F nf cf), (.int .i64 k), (.int .i64 tk)]) Tryd.func14 rfl rfl ?_
  refine ac_seq (ac_region ?_)
  refine al_p (q_assign rfl) (al_end (aq_then ?_))
  refine ac_seq (ac_seq (ac_region ?_))
  refine al_p (q_move rfl) (al_p (q_lenS rfl Tryd.runUnderlying34) (al_p (q_move rfl) (al_end (aq_then ?_))))
  refine ac_block (ac_loop (β := Nat × Int) (fun y => y.1 ≤ nf ∧ faultGo k tk zs v = faultGo k tk (zs.drop y.1) y.2 ∧ -50000000000000000 ≤ y.2 ∧ y.2 ≤ 50000000000000000) (fun y => [(0, (.int .i64 y.2)), (2, (.int .i64 k)), (3, (.int .i64 tk)), (8, (.int .i64 0)), (11, (.slice F nf cf)), (12, (.int .i64 (nf : Int))), (13, (.int .i64 (y.1 : Int)))]) (fun _ => _) (fun y => []) (fun y => nf - y.1) (0, v) ⟨by simp, rfl, v0, v1⟩ ⟨rfl, rfl, rfl, rfl, rfl, rfl, rfl, trivial⟩ (fun w9 hs => hs) (fun y hF1 => ?_))
  obtain ⟨hyl, hyg, hy0, hy1⟩ := hF1
  refine ac_seq (ac_region ?_)
  refine al_p (q_lss rfl rfl) (al_end (aq_then ?_))
  refine ac_seq ?_
  refine ac_cond rfl (fun h1 => ?_) (fun h1 => ?_)
  · have hyk : y.1 < nf := by have := of_decide_eq_true h1; omega
    obtain ⟨b11, o11, hA1, hlt1, hget1⟩ := hF.2 (by omega)
    have hx1 := getD_get (l := zs) (d := ⟨0, 0, 0, 0⟩) (k := y.1) (by omega)
    have hfx := hfs _ (List.mem_of_getElem? hx1)
    refine ac_skip (aq_then (ac_seq (ac_block (ac_seq (ac_region ?_)))))
    refine al_p (q_indexAddrA (i := y.1) (o11 + y.1 * 4 + 0) hA1 rfl rfl rfl (by omega) Tryd.runUnderlying34 Tryd.sizeOf66 rfl) (al_p (q_loadXs (FaultD.cells (zs.getD y.1 ⟨0, 0, 0, 0⟩)) rfl Tryd.isAgg66 Tryd.sizeOf66 (fun w9 hs j9 v9 h9 => by rw [addr_add]; exact (hs.below.cell (p := ⟨_, _, none⟩) hlt1).trans ((hget1 y.1 _ hx1) j9 v9 h9)) rfl) (al_new (fun b => .pointer (some ⟨b, 0, none⟩)) (r_alloc Tryd.zeroValue66 rfl) rfl rfl rfl ?_))
    intro b1
    refine al_storeAll (i := 0) rfl rfl rfl rfl Tryd.sizeOf66 rfl rfl .k0 rfl (al_end (aq_then ?_))
    refine ac_seq (ac_region ?_)
    refine al_p (q_fieldAddr 1 rfl Tryd.runUnderlying66 rfl Tryd.sizeOf3 (by decide) rfl) (al_p (q_load (i := 0) rfl rfl rfl Tryd.isAgg3) (al_p (q_move rfl) (al_p (q_eql rfl rfl) (al_p (q_move rfl) ?_))))
    refine aq_split 21 rfl (fun hb1 => ?_) (fun hb1 => ?_)
    · have heq : (zs.getD y.1 ⟨0, 0, 0, 0⟩).sensor = k := of_decide_eq_true hb1
      refine al_p (q_fieldAddr 0 rfl Tryd.runUnderlying66 rfl Tryd.sizeOf3 (by decide) rfl) (al_p (q_load (i := 0) rfl rfl rfl Tryd.isAgg3) (al_p (q_move rfl) (al_p (q_leq rfl rfl) (al_p (q_pickT rfl rfl) ?_))))
      refine al_end (aq_then ?_)
      refine ac_cond rfl (fun h2 => ?_) (fun h2 => ?_)
      · have hat : (zs.getD y.1 ⟨0, 0, 0, 0⟩).at_ ≤ tk := of_decide_eq_true h2
        refine ac_draw 9 (by kernel_rfl) (by kernel_rfl) ?_
        refine ah_t 0 (fun w9 hs => hs) rfl rfl (by kernel_rfl) (q_fieldAddr 2 rfl Tryd.runUnderlying66 rfl Tryd.sizeOf3 (by decide) rfl) (ah_t 1 (fun w9 hs => hs) rfl rfl (by kernel_rfl) (q_load (i := 0) rfl rfl rfl Tryd.isAgg3) (ah_t 3 (fun w9 hs => hs) rfl rfl (by kernel_rfl) (q_move rfl) ?_))
        refine ah_t 4 (fun w9 hs => hs) rfl rfl (by kernel_rfl) (q_fieldAddr 3 rfl Tryd.runUnderlying66 rfl Tryd.sizeOf3 (by decide) rfl) (ah_t 5 (fun w9 hs => hs) rfl rfl (by kernel_rfl) (q_load (i := 0) rfl rfl rfl Tryd.isAgg3) (ah_one 2 rfl (by kernel_rfl) (fun hok1 hcl1 => ?_)))
        refine al_call Tryd.call35 (.cons rfl .nil) rfl rfl (fun w1 hs1 => ?_)
        refine (effect_any (zs.getD y.1 ⟨0, 0, 0, 0⟩).kind _ hfx.1).mono ?_
        rintro e u1 ⟨rfl, hb_1⟩
        refine ⟨_, rfl, hb_1, ?_⟩
        clear hs1
        refine al_end (ah_back hok1 hcl1 (fun w9 hs => (hs.fewer 1 rfl)) ?_)
        refine ah_one 6 rfl (by kernel_rfl) (fun hok2 hcl2 => ?_)
        refine al_callV (f := (effF (zs.getD y.1 ⟨0, 0, 0, 0⟩).kind)) (fi := []) (ca := []) rfl (effF_call _) (.cons rfl (.cons rfl .nil)) rfl rfl (fun w2 hs2 => ?_)
        refine (eff_any (zs.getD y.1 ⟨0, 0, 0, 0⟩).kind y.2 (zs.getD y.1 ⟨0, 0, 0, 0⟩).n _ hfx.1 hy0 hy1 hfx.2.1 hfx.2.2.1 hfx.2.2.2).mono ?_
        rintro e u2 ⟨rfl, hb_2⟩
        refine ⟨_, rfl, hb_2, ?_⟩
        clear hs2
        refine al_end (ah_back hok2 hcl2 (fun w9 hs => (hs.fewer 2 rfl)) ?_)
        refine ah_t 7 (fun w9 hs => (hs.fewer 2 rfl)) rfl rfl (by kernel_rfl) (q_min rfl rfl) (ah_t 8 (fun w9 hs => (hs.fewer 2 rfl)) rfl rfl (by kernel_rfl) (q_max rfl rfl) (ah_one 9 rfl (by kernel_rfl) (fun hok3 hcl3 => ?_)))
        refine al_p (q_assign rfl) (al_end (ah_last (by kernel_rfl) ?_))
        refine aq_inN (aq_then (ac_region ?_))
        refine al_p (q_add rfl rfl (by omega)) (al_p (q_move rfl) (al_end (aq_then ?_)))
        skip
        refine aq_round ((y.1 + 1, (max (-500000000000000) (min (effD (zs.getD y.1 ⟨0, 0, 0, 0⟩).kind y.2 (zs.getD y.1 ⟨0, 0, 0, 0⟩).n) 500000000000000)))) (by simp only; omega) ⟨by simp only; omega, by simp only; rw [hyg, faultGo_drop hx1]; first | rw [if_neg (fun h => hne h.1)] | rw [if_neg (fun h => hna h.2)] | (rw [if_pos ⟨heq, hat⟩]; rfl), by simp only; omega, by simp only; omega⟩ ⟨rfl, rfl, rfl, rfl, rfl, rfl, rfl, trivial⟩ (fun w9 hs => ((hs.fewer 2 rfl).tail 1 rfl))
      · have hna : ¬ (zs.getD y.1 ⟨0, 0, 0, 0⟩).at_ ≤ tk := of_decide_eq_false h2
        refine ac_skip (aq_inN (aq_then (ac_region ?_)))
        refine al_p (q_add rfl rfl (by omega)) (al_p (q_move rfl) (al_end (aq_then ?_)))
        skip
        refine aq_round ((y.1 + 1, y.2)) (by simp only; omega) ⟨by simp only; omega, by simp only; rw [hyg, faultGo_drop hx1]; first | rw [if_neg (fun h => hne h.1)] | rw [if_neg (fun h => hna h.2)] | (rw [if_pos ⟨heq, hat⟩]; rfl), by simp only; omega, by simp only; omega⟩ ⟨rfl, rfl, rfl, rfl, rfl, rfl, rfl, trivial⟩ (fun w9 hs => (hs.tail 1 rfl))
    · have hne : ¬ (zs.getD y.1 ⟨0, 0, 0, 0⟩).sensor = k := of_decide_eq_false hb1
      refine al_skip rfl rfl rfl (al_skip rfl rfl rfl (al_skip rfl rfl rfl (al_skip rfl rfl rfl (al_p (q_pickF rfl rfl) ?_))))
      refine al_end (aq_then ?_)
      refine ac_condF rfl (ac_skip (aq_inN (aq_then (ac_region ?_))))
      refine al_p (q_add rfl rfl (by omega)) (al_p (q_move rfl) (al_end (aq_then ?_)))
      skip
      refine aq_round ((y.1 + 1, y.2)) (by simp only; omega) ⟨by simp only; omega, by simp only; rw [hyg, faultGo_drop hx1]; first | rw [if_neg (fun h => hne h.1)] | rw [if_neg (fun h => hna h.2)] | (rw [if_pos ⟨heq, hat⟩]; rfl), by simp only; omega, by simp only; omega⟩ ⟨rfl, rfl, rfl, rfl, rfl, rfl, rfl, trivial⟩ (fun w9 hs => (hs.tail 1 rfl))
  · have hye : y.1 = nf := by have := of_decide_eq_false h1; omega
    refine ac_exit (aq_thenE (aq_thenE (aq_hit (aq_then ?_))))
    refine ac_seq (ac_region ?_)
    refine al_p (q_move rfl) (al_p (q_assign rfl) (al_end (aq_then ?_)))
    refine ac_ret (ret1 Tryd.results14 rfl (fun w9 hs => ?_))
    refine ⟨?_, hs.below⟩; rw [hyg, List.drop_eq_nil_of_le (by omega)]; rfl
end
section
open Go.RowKit Go.Shelf
theorem all_drop {α : Type} (p : α → Bool) {l : List α} {k : Nat} {x : α} (h : l[k]? = some x) : (l.drop k).all p = (p x && (l.drop (k + 1)).all p) := by
  obtain ⟨hk, rfl⟩ := List.getElem?_eq_some_iff.1 h
  rw [List.drop_eq_getElem_cons hk]; rfl
set_option maxRecDepth 100000 in
set_option maxHeartbeats 8000000 in
theorem rvalidFaults_any (R : MachR) (M : MachD) (F : Option Addr) (len cap : Nat) (zs : List FaultD) (w : World) (hM : IsM w R M) (hF : IsT 4 FaultD.cells w F len zs) (hl : len ≤ 1000000000000000) :
    Calls Tryd.prog 17 #[.agg (machCells R M), .slice F len cap] w (Ret (.bool (faultsB M zs)) w) := by
  have HE : Hid (faultsB M zs = (decide (checkC M = 0) && (decide (zs.length ≤ 32) && zs.all (faultB M.sensors.length)))) := Lib.hid rfl
  have hn := hM.sensors.1
  have hz := hF.1
  have hkd := hM.kd
  have H0 := Lib.hid (fun W (hb : Below w.heap.size w W) => rcheck_any R M W (hM.below hb))
  have HI := Lib.hid hF
  rw [hn, hz] at HE
  generalize faultsB M zs = G at *
  generalize checkC M = c at *
  clear hM hF hn hz
  obtain ⟨A, B, C, D, la, ca, lb, cb, lc, cc, ld, cd⟩ := R
  obtain ⟨name, coils, shells, limits, ⟨r, z, nr, nz, step⟩, sensors⟩ := M
  dsimp only at *
  have H0 := Lib.hid (show ∀ W, Below w.heap.size w W → Calls Tryd.prog 36 #[.agg #[.string name, .slice A la ca, .slice B lb cb, .slice C lc cc, .int .i64 r, .int .i64 z, .int .i64 nr, .int .i64 nz, .int .i64 step, .slice D ld cd]] W (Ret (.int .i64 c) W) from H0.out)
  show Calls Tryd.prog 17 #[.agg #[.string name, .slice A la ca, .slice B lb cb, .slice C lc cc, .int .i64 r, .int .i64 z, .int .i64 nr, .int .i64 nz, .int .i64 step, .slice D ld cd], .slice F len cap] w _
  by_cases hc : c = 0
  · subst hc
    by_cases hq : len ≤ 32
    · have HG : Hid ((zs.drop 0).all (faultB ld) = G) := Lib.hid (by rw [HE.out, decide_eq_true hq]; rfl)
      clear HE
      go_enter Tryd.func17, Tryd.ntmps17
      go_wp2_with fail
      refine (H0.out _ (by (with_reducible repeat first | exact Below.refl _ _ | assumption | ((first | refine Below.setCell ?_ ?_ _ | refine Below.alloc ?_ ?_ _); rotate_left; exact (by first | omega | (simp; done) | (simp; omega))) | refine Below.drew ?_ | refine Below_drewN ?_ _))).mono ?_
      rintro e w1 ⟨rfl, hb⟩
      have q9 : w1.cell? ⟨w.heap.size, 9, none⟩ = some (.slice D ld cd) := by rw [hb.cell (p := ⟨w.heap.size, 9, none⟩) (by simp)]; go_simp
      have hs : w.heap.size < w1.heap.size := Nat.lt_of_lt_of_le (by simp) hb.size
      have hB1 : Below w.heap.size w w1 := Below.trans (by (with_reducible repeat first | exact Below.refl _ _ | assumption | ((first | refine Below.setCell ?_ ?_ _ | refine Below.alloc ?_ ?_ _); rotate_left; exact (by first | omega | (simp; done) | (simp; omega))) | refine Below.drew ?_ | refine Below_drewN ?_ _)) (hb.mono (by first | omega | ((try simp only [World.size_alloc, World.size_setCell, size_drew, size_drewN]); omega) | (simp; done) | (simp; omega)))
      clear hb
      go_wp2_with fail
      go_loopw [5] (fun i wr => ∃ j : Nat, j ≤ len ∧ i = .int .i64 j ∧ Hid ((zs.drop j).all (faultB ld) = G) ∧ wr.cell? ⟨w.heap.size, 9, none⟩ = some (.slice D ld cd) ∧ w.heap.size < wr.heap.size ∧ Below w.heap.size w wr) (fun i _ => len - (intOf i).toNat)
      case atStart => exact ⟨0, Nat.zero_le _, rfl, HG, q9, hs, by (with_reducible repeat first | exact Below.refl _ _ | assumption | ((first | refine Below.setCell ?_ ?_ _ | refine Below.alloc ?_ ?_ _); rotate_left; exact (by first | omega | (simp; done) | (simp; omega))) | refine Below.drew ?_ | refine Below_drewN ?_ _)⟩
      case round =>
        obtain ⟨j, hj, rfl, hG, q9, hsq, hB⟩ := hrel
        have sz0 := hB.size
        by_cases hlt : j < len
        · obtain ⟨hzl, hcl⟩ := HI.out.below hB
          obtain ⟨b, o, rfl, hb0, hcl⟩ := hcl (by omega)
          obtain ⟨x, hx⟩ : ∃ x, zs[j]? = some x := ⟨_, List.getElem?_eq_getElem (by omega)⟩
          have x0 : wr.cell? ⟨b, o + j * 4, none⟩ = some (.int .i64 x.at_) := by have h := hcl j x hx 0 _ rfl; simpa using h
          have x1 : wr.cell? ⟨b, o + j * 4 + 1, none⟩ = some (.int .i64 x.sensor) := by have h := hcl j x hx 1 _ rfl; simpa using h
          have x2 : wr.cell? ⟨b, o + j * 4 + 2, none⟩ = some (.int .i64 x.kind) := by have h := hcl j x hx 2 _ rfl; simpa using h
          have x3 : wr.cell? ⟨b, o + j * 4 + 3, none⟩ = some (.int .i64 x.n) := by have h := hcl j x hx 3 _ rfl; simpa using h
          have HS := Lib.hid (hG.out.symm.trans (all_drop (faultB ld) hx))
          have HV := Lib.hid (fun W => rvalidFault_any (ld : Int) x W (by omega) (by omega))
          clear hcl hx hzl hG
          have jc : (0 : Int) ≤ j := by omega
          have jn : ((j : Int)).toNat = j := by omega
          generalize faultB (ld : Int) x = fb at *
          obtain ⟨fa, fs, fk, fm⟩ := x
          dsimp only at x0 x1 x2 x3
          have HV := Lib.hid (show ∀ W, Calls Tryd.prog 39 #[.int .i64 ld, .agg #[.int .i64 fa, .int .i64 fs, .int .i64 fk, .int .i64 fm]] W (Ret (.bool fb) W) from HV.out)
          go_wp2_with fail
          go_cut [28] (fun s wx => s = .bool (!fb) ∧ Below w.heap.size w wx ∧ wx.cell? ⟨w.heap.size, 9, none⟩ = some (.slice D ld cd) ∧ w.heap.size < wx.heap.size)
          case first =>
            have HS : Hid (∀ w' : World, Reg (wr.heap.size) (wr) w' → (Reg (wr.heap.size) (wr) w' ∧ w'.cell? ⟨w.heap.size, 9, none⟩ = some (.slice D ld cd) ∧ w'.cell? ⟨b, o + j * 4, none⟩ = some (.int .i64 fa) ∧ w'.cell? ⟨b, o + j * 4 + 1, none⟩ = some (.int .i64 fs) ∧ w'.cell? ⟨b, o + j * 4 + 2, none⟩ = some (.int .i64 fk) ∧ w'.cell? ⟨b, o + j * 4 + 3, none⟩ = some (.int .i64 fm))) := (fun w' h => by (have hc := h.cells; have hs := h.some; have hf := h.frozen; refine ⟨h, ?_⟩; (try simp only [World.size_alloc, World.size_setCell, size_drew, size_drewN] at hc hs hf); first | (simp (disch := omega) only [hc, hs, hf, cur_iff]; (try go_simp); done) | (simp (disch := first | omega | (simp; done)) only [hc, hs, hf, cur_iff]; (try go_simp); done) | (simp (maxDischargeDepth := 4) [hc, hs, hf, cur_iff, go_sem]; done) | (go_simp; done) | (simp (maxDischargeDepth := 4) [hc, hs, hf, cur_iff, go_sem]; go_simp))); go_region_held3 (fun w' => Reg (wr.heap.size) (wr) w' ∧ w'.cell? ⟨w.heap.size, 9, none⟩ = some (.slice D ld cd) ∧ w'.cell? ⟨b, o + j * 4, none⟩ = some (.int .i64 fa) ∧ w'.cell? ⟨b, o + j * 4 + 1, none⟩ = some (.int .i64 fs) ∧ w'.cell? ⟨b, o + j * 4 + 2, none⟩ = some (.int .i64 fk) ∧ w'.cell? ⟨b, o + j * 4 + 3, none⟩ = some (.int .i64 fm)) (exact HS.out _ (by (repeat first | with_reducible exact Reg.refl _ _ | with_reducible exact Reg.drewN2 _ _ _ _ | with_reducible exact (‹Reg _ _ _ ∧ _›).1 | (with_reducible refine Reg.setCell ?_ ?_ _; rotate_left; exact (by first | omega | ((try simp only [World.size_alloc, World.size_setCell, size_drew, size_drewN]); omega) | (simp; done) | (simp; omega))) | with_reducible refine Reg.alloc ?_ _ | with_reducible refine Reg.drew ?_ | with_reducible refine Reg.drewN ?_ _ | (with_reducible apply Reg.call; rotate_left; with_reducible assumption)))) (first | (go_at_call 39; refine (HV.out _).mono ?_; rintro e w2 ⟨rfl, hb⟩; (first | (with_reducible have hk := Nat.lt_of_lt_of_le (size_alloc_lt _ _) hb.size) | (with_reducible have hk := Nat.lt_of_lt_of_le (size_alloc_drew_lt _ _) hb.size) | (with_reducible have hk := Nat.lt_of_lt_of_le hk hb.size) | skip); (try simp only [World.size_alloc, World.size_setCell, size_drew, size_drewN] at hk); obtain ⟨hc, hf⟩ := bcell hb; have hs := hb.size; (try simp only [World.size_alloc, World.size_setCell, size_drew, size_drewN] at hs)))
            all_goals go_wp2_with fail
            all_goals go_meet
            all_goals obtain ⟨hr0, hr1, -⟩ := (‹Reg _ _ _ ∧ _ ∧ _›)
            all_goals exact ⟨rfl, Reg.out hr0 (by (with_reducible repeat first | exact Below.refl _ _ | assumption | ((first | refine Below.setCell ?_ ?_ _ | refine Below.alloc ?_ ?_ _); rotate_left; exact (by first | omega | (simp; done) | (simp; omega))) | refine Below.drew ?_ | refine Below_drewN ?_ _)) (by first | omega | (simp; done) | (simp; omega)), hr1, Nat.lt_of_lt_of_le hsq hr0.size⟩
          case rest =>
            obtain ⟨rfl, hB2, q9', hsq2⟩ := hcut
            have sz2 := hB2.size
            cases fb
            · have HF : Hid (false = G) := Lib.hid (by rw [HS.out]; rfl)
              clear HS
              go_wp2_with fail
              go_ret
              exact ⟨by rw [← HF.out]; rfl, by (with_reducible repeat first | exact Below.refl _ _ | assumption | ((first | refine Below.setCell ?_ ?_ _ | refine Below.alloc ?_ ?_ _); rotate_left; exact (by first | omega | (simp; done) | (simp; omega))) | refine Below.drew ?_ | refine Below_drewN ?_ _)⟩
            · have HN : Hid ((zs.drop (j + 1)).all (faultB ld) = G) := Lib.hid (by rw [HS.out]; rfl)
              clear HS
              go_wp2_with fail
              go_roundw
              case rel => exact ⟨j + 1, by omega, by go_num, HN, q9', hsq2, hB2⟩
              case measure => simp [intOf]; omega
        · have HN : Hid (true = G) := Lib.hid (by rw [← hG.out, List.drop_of_length_le (by rw [HI.out.1]; omega)]; rfl)
          go_wp2
          go_ret
          exact ⟨by rw [← HN.out]; rfl, hB⟩
    · have HF : Hid (false = G) := Lib.hid (by rw [HE.out, decide_eq_false hq]; rfl)
      clear HE
      go_enter Tryd.func17, Tryd.ntmps17
      go_wp2_with fail
      refine (H0.out _ (by (with_reducible repeat first | exact Below.refl _ _ | assumption | ((first | refine Below.setCell ?_ ?_ _ | refine Below.alloc ?_ ?_ _); rotate_left; exact (by first | omega | (simp; done) | (simp; omega))) | refine Below.drew ?_ | refine Below_drewN ?_ _))).mono ?_
      rintro e w1 ⟨rfl, hb⟩
      have hs : w.heap.size < w1.heap.size := Nat.lt_of_lt_of_le (by simp) hb.size
      have hB1 : Below w.heap.size w w1 := Below.trans (by (with_reducible repeat first | exact Below.refl _ _ | assumption | ((first | refine Below.setCell ?_ ?_ _ | refine Below.alloc ?_ ?_ _); rotate_left; exact (by first | omega | (simp; done) | (simp; omega))) | refine Below.drew ?_ | refine Below_drewN ?_ _)) (hb.mono (by first | omega | ((try simp only [World.size_alloc, World.size_setCell, size_drew, size_drewN]); omega) | (simp; done) | (simp; omega)))
      clear hb
      go_wp2_with fail
      go_ret
      exact ⟨by rw [← HF.out]; rfl, by (with_reducible repeat first | exact Below.refl _ _ | assumption | ((first | refine Below.setCell ?_ ?_ _ | refine Below.alloc ?_ ?_ _); rotate_left; exact (by first | omega | (simp; done) | (simp; omega))) | refine Below.drew ?_ | refine Below_drewN ?_ _)⟩
  · have HF : Hid (false = G) := Lib.hid (by rw [HE.out, decide_eq_false hc]; rfl)
    have hcb : (c != 0) = true := by rw [bne_iff_ne]; exact hc
    clear HE hc
    go_enter Tryd.func17, Tryd.ntmps17
    go_wp2_with fail
    refine (H0.out _ (by (with_reducible repeat first | exact Below.refl _ _ | assumption | ((first | refine Below.setCell ?_ ?_ _ | refine Below.alloc ?_ ?_ _); rotate_left; exact (by first | omega | (simp; done) | (simp; omega))) | refine Below.drew ?_ | refine Below_drewN ?_ _))).mono ?_
    rintro e w1 ⟨rfl, hb⟩
    have hs : w.heap.size < w1.heap.size := Nat.lt_of_lt_of_le (by simp) hb.size
    have hB1 : Below w.heap.size w w1 := Below.trans (by (with_reducible repeat first | exact Below.refl _ _ | assumption | ((first | refine Below.setCell ?_ ?_ _ | refine Below.alloc ?_ ?_ _); rotate_left; exact (by first | omega | (simp; done) | (simp; omega))) | refine Below.drew ?_ | refine Below_drewN ?_ _)) (hb.mono (by first | omega | ((try simp only [World.size_alloc, World.size_setCell, size_drew, size_drewN]); omega) | (simp; done) | (simp; omega)))
    clear hb
    go_wp2_with fail
    go_ret
    exact ⟨by rw [← HF.out]; rfl, by (with_reducible repeat first | exact Below.refl _ _ | assumption | ((first | refine Below.setCell ?_ ?_ _ | refine Below.alloc ?_ ?_ _); rotate_left; exact (by first | omega | (simp; done) | (simp; omega))) | refine Below.drew ?_ | refine Below_drewN ?_ _)⟩
end
section
set_option autoImplicit false
open Go.RowKit
section
variable {P : Program} {e0 : Cfg} {U : Snaps} {l : Slots} {L : Boxes} {ops : Array Oper} {Q : Exit → Act → World → Prop} {rest : List Oper} {d : Nat} {v : Value}
variable {ty : TypeId} {pos : String} {af : Array Edge} {g : Option (Nat × Bool)} {dd : Option Nat}
end
end
section
set_option autoImplicit false
open Go.RowKit
theorem Chg.trans {X : List Nat} {A B C : World} (h : Chg X A B) (k : Chg X B C) : Chg X A C :=
  ⟨k.os.trans h.os, k.tape.trans h.tape, k.output.trans h.output, Nat.le_trans h.size k.size, fun b hb hx => (k.block b (Nat.lt_of_lt_of_le hb h.size) hx).trans (h.block b hb hx)⟩
theorem Chg.mono {X Y : List Nat} {A B : World} (h : Chg X A B) (hX : ∀ x ∈ X, x ∈ Y) : Chg Y A B :=
  ⟨h.os, h.tape, h.output, h.size, fun b hb hy => h.block b hb (fun hx => hy (hX b hx))⟩
theorem Chg.putObj {W : World} {l : Nat} {o o' : Obj} (h : W.heap[l]? = some o) : Chg [l] W (W.putObj l o') :=
  ⟨rfl, rfl, rfl, by simp [World.putObj], fun b _ hb => World.putObj_heap_other (by simpa using hb)⟩
structure Mv (n0 : Nat) (Z : List Nat) (W W' : World) : Prop where
  os : W'.os = W.os
  tape : W'.tape = W.tape
  output : W'.output = W.output
  size : W.heap.size ≤ W'.heap.size
  block : ∀ b, b < W.heap.size → b ∉ Z → (b < n0 ∨ ∃ o : Obj, W.heap[b]? = some o ∧ o.isCells = true) → W'.heap[b]? = W.heap[b]?
theorem Mv.trans {n0 : Nat} {Z : List Nat} {A B C : World} (h : Mv n0 Z A B) (k : Mv n0 Z B C) : Mv n0 Z A C :=
  ⟨k.os.trans h.os, k.tape.trans h.tape, k.output.trans h.output, Nat.le_trans h.size k.size, fun b hb hz hc => by
    have e := h.block b hb hz hc
    exact (k.block b (Nat.lt_of_lt_of_le hb h.size) hz (hc.imp id (fun ⟨o, ho, hk⟩ => ⟨o, e.trans ho, hk⟩))).trans e⟩
theorem Mv.putObj {n0 l : Nat} {Z : List Nat} {W : World} {o o' : Obj} (hl : n0 ≤ l) (h : W.heap[l]? = some o) (hc : o.isCells = false) : Mv n0 Z W (W.putObj l o') :=
  ⟨rfl, rfl, rfl, by simp [World.putObj], fun b hb _ hk => World.putObj_heap_other (fun e => by
    subst e
    rcases hk with g | ⟨o2, h2, g⟩
    · omega
    · rw [h] at h2; cases h2; rw [hc] at g; cases g)⟩
theorem IsT.keep {α : Type} {z n : Nat} {enc : α → List Value} {w w' : World} {A : Option Addr} {zs : List α} (h : IsT z enc w A n zs) (hs : w.heap.size ≤ w'.heap.size) (hk : ∀ b o, A = some ⟨b, o, none⟩ → 0 < n → w'.heap[b]? = w.heap[b]?) : IsT z enc w' A n zs :=
  ⟨h.1, fun h0 => by
    obtain ⟨b, o, e, h1, h2⟩ := h.2 h0
    exact ⟨b, o, e, Nat.lt_of_lt_of_le h1 hs, fun j x hx i v hv => (World.cell?_of_block (w := w) (w' := w') (a := ⟨b, _, none⟩) (hk b o e h0)).trans (h2 j x hx i v hv)⟩⟩
theorem IsT.chg {α : Type} {z n : Nat} {X : List Nat} {enc : α → List Value} {w w' : World} {A : Option Addr} {zs : List α} (h : IsT z enc w A n zs) (hm : Chg X w w') (hz : ∀ b o, A = some ⟨b, o, none⟩ → b ∉ X) : IsT z enc w' A n zs :=
  h.keep hm.size fun b o e h0 => by
    obtain ⟨b', o', e', h1, h2⟩ := h.2 h0
    rw [e] at e'; cases e'
    exact hm.block b h1 (hz b o e)
theorem roundIn_n {n m : Nat} {P : Program} {l : Nat} {f : FuncId} {tmps : Array Value} {assign body : Code} {w : World} {R : Ending → World → Prop} (h : RoundIn Fence.wide n P l f tmps assign body w R) : RoundIn Fence.wide m P l f tmps assign body w R :=
  ⟨h.1, fun c cs _ => h.2 c cs (room_wide _)⟩
end
end Go.Proofs.YtapldonpflgnfaaDoor
