import Derived.Test.YthggkidiidnaoaaGreatDoorKAM
import Derived.Test.YthggkidiidnaoaaGreatDoorKAQ
import Derived.Test.YthggkidiidnaoaaGreatDoorKAW
import Derived.Test.YthggkidiidnaoaaGreatDoorRows
import Derived.KernelRfl
import Derived.Laws.StructEq
namespace Go.Proofs.YthggkidiidnaoaaGreatDoor
set_option linter.unusedVariables false
set_option linter.unusedSimpArgs false
section
open Go.RowKit Go.Shelf
def inB (C : CurD) (cell cur : Int) : Bool := wthn cell 0 ((C.plasma.length : Int) - 1) && wthn cur 0 1000000
def filaE (M : MachD) (C : CurD) (cell cur : Int) : Int := if validC M C = true then if inB C cell cur = true then 0 else 7 else 1
def filaD (C : CurD) (cell cur : Int) : CurD := ⟨C.coils, C.shells, (List.replicate C.plasma.length 0).set cell.toNat cur⟩
end
section
set_option autoImplicit false
open Go.RowKit
inductive Ins (x : Nat × Cont) : Boxes → Boxes → Prop
 | here {L : Boxes} : Ins x L (x :: L)
 | there {y : Nat × Cont} {L L' : Boxes} (h : Ins x L L') : Ins x (y :: L) (y :: L')
theorem Ins.perm {x : Nat × Cont} {L L' : Boxes} (h : Ins x L L') : L'.Perm (x :: L) := by
 induction h with
 | here => exact List.Perm.refl _
 | there h ih => exact (List.Perm.cons _ ih).trans (List.Perm.swap _ _ _)
inductive Pm : Boxes → Boxes → Prop
 | refl {L : Boxes} : Pm L L
 | cons {x : Nat × Cont} {M L L' : Boxes} (h : Ins x L L') (t : Pm M L) : Pm (x :: M) L'
theorem Pm.perm {M L : Boxes} (h : Pm M L) : L.Perm M := by
 induction h with
 | refl => exact List.Perm.refl _
 | cons h t ih => exact h.perm.trans (List.Perm.cons _ ih)
theorem Sta.pm {E : Cfg} {U : Snaps} {L M : Boxes} {w : World} (h : Sta E U L w) (hp : Pm M L) : Sta E U M w := h.perm hp.perm
section
variable {P : Program} {e0 : Cfg} {U : Snaps} {l : Slots} {L : Boxes} {ops : Array Oper} {Q : Exit → Act → World → Prop} {U0 : Snaps} {L0 : Boxes} {last fuel : Nat} {listed : Array Bool}
theorem ah_share {fuel' : Nat} {listed' : Array Bool} (K : (Slots → Boxes → Prop) → Prop) (h1 : K (fun l' L' => AH P ops Q U0 L0 last fuel' listed' e0 U l' L'))
  (h2 : K (fun l' L' => AH P ops Q U0 L0 last fuel' listed' e0 U l' L') → AH P ops Q U0 L0 last fuel listed e0 U l L) : AH P ops Q U0 L0 last fuel listed e0 U l L := h2 h1
theorem ah_to {fuel' : Nat} {listed' : Array Bool} {l' : Slots} {L' : Boxes} (h : AH P ops Q U0 L0 last fuel' listed' e0 U l' L') (hf : fuel' = fuel) (he : listed' = listed) (hl : AllLook l l') (hL : ∀ w, Sta e0 U L w → Sta e0 U L' w) : AH P ops Q U0 L0 last fuel listed e0 U l L := by
 subst hf; subst he
 exact fun hok hc => aq_sub (h hok hc) hl hL
end
end
section
set_option autoImplicit false
open Go.RowKit
structure Chn where
 (ia ib t : Nat) (z f : List Value)
abbrev Ph := Option (Nat × Bool)
def Chn.box (c : Chn) : Ph → Boxes
 | none => []
 | some (b, false) => [(b, .cells c.z)]
 | some (b, true) => [(b, .cells c.f)]
abbrev Phs := List (Chn × Ph)
def Apt (c d : Chn) : Prop := c.ia ≠ d.ia ∧ c.ia ≠ d.ib ∧ c.ib ≠ d.ia ∧ c.ib ≠ d.ib ∧ c.t ≠ d.t
theorem Apt.symm {c d : Chn} (h : Apt c d) : Apt d c := ⟨h.1.symm, h.2.2.1.symm, h.2.1.symm, h.2.2.2.1.symm, h.2.2.2.2.symm⟩
section
variable {P : Program} {e0 : Cfg} {U : Snaps} {ops : Array Oper} {Q : Exit → Act → World → Prop} {l0 : Slots} {L0 : Boxes}
def waits (ops : Array Oper) (listed : Array Bool) (j : Nat) (k : Option Nat) : Bool := match ops[j]? with
 | some o => o.after.all fun e => !Region.binds .any e || listed.getD e.on false || k == some e.on
 | none => false
structure Lis (ops : Array Oper) (base listed : Array Bool) (s : Phs) : Prop where
 size : listed.size = ops.size
 base : ∀ j, base.getD j false = true → listed.getD j false = true
 ch : ∀ x ∈ s, listed.getD x.1.ia false = x.2.isSome ∧ listed.getD x.1.ib false = (match x.2 with | some (_, true) => true | _ => false)
 rest : ∀ j, j < ops.size → (∀ x ∈ s, j ≠ x.1.ia ∧ j ≠ x.1.ib) → listed.getD j false = true
theorem getD_put {listed : Array Bool} {i j : Nat} : (listed.setIfInBounds i true).getD j false = if i = j ∧ i < listed.size then true else listed.getD j false := by
 simp only [Array.getD_eq_getD_getElem?, Array.getElem?_setIfInBounds]
 by_cases h : i = j
 ·subst h
  by_cases g : i < listed.size
  ·simp [g]
  ·simp [g]
 ·simp [h]
theorem Lis.put {base listed : Array Bool} {S1 S2 : Phs} {c : Chn} {p q : Ph} {i : Nat} (h : Lis ops base listed (S1 ++ (c, p) :: S2)) (hi : i < ops.size) (hap : ∀ x, x ∈ S1 ∨ x ∈ S2 → Apt c x.1) (hne : c.ia ≠ c.ib)
  (hq : (i = c.ia ∧ p = none ∧ ∃ b, q = some (b, false)) ∨ (i = c.ib ∧ ∃ b, p = some (b, false) ∧ q = some (b, true))) : Lis ops base (listed.setIfInBounds i true) (S1 ++ (c, q) :: S2) := by
 have hsz := h.size
 have mem : ∀ x, x ∈ S1 ∨ x ∈ S2 → x ∈ S1 ++ (c, p) :: S2 := fun x hx => by simp only [List.mem_append, List.mem_cons]; rcases hx with g | g <;> simp [g]
 refine ⟨by simp [hsz], fun j hj => by rw [getD_put]; split; rfl; exact h.base j hj, fun x hx => ?_, fun j hj hall => ?_⟩
 ·have hx' : x = (c, q) ∨ (x ∈ S1 ∨ x ∈ S2) := by simp only [List.mem_append, List.mem_cons] at hx; rcases hx with g | g | g <;> simp [g]
  rcases hx' with rfl | hx'
  ·have hc := h.ch (c, p) (by simp)
   simp only at hc ⊢
   rcases hq with ⟨rfl, rfl, b, rfl⟩ | ⟨rfl, b, rfl, rfl⟩
   ·rw [getD_put, getD_put, if_pos ⟨rfl, by omega⟩, if_neg (fun g => hne g.1)]
    exact ⟨rfl, hc.2⟩
   ·rw [getD_put, getD_put, if_neg (fun g => hne g.1.symm), if_pos ⟨rfl, by omega⟩]
    exact ⟨hc.1, rfl⟩
  ·have ha := hap x hx'
   have hc := h.ch x (mem x hx')
   rw [getD_put, getD_put]
   rcases hq with ⟨rfl, -, -⟩ | ⟨rfl, -, -⟩
   ·rw [if_neg (fun g => ha.1 g.1), if_neg (fun g => ha.2.1 g.1)]; exact hc
   ·rw [if_neg (fun g => ha.2.2.1 g.1), if_neg (fun g => ha.2.2.2.1 g.1)]; exact hc
 ·rw [getD_put]
  split
  ·rfl
  ·refine h.rest j hj fun x hx => ?_
   have hx' : x = (c, p) ∨ (x ∈ S1 ∨ x ∈ S2) := by simp only [List.mem_append, List.mem_cons] at hx; rcases hx with g | g | g <;> simp [g]
   rcases hx' with rfl | hx'
   ·exact hall (c, q) (by simp)
   ·exact hall x (by simp only [List.mem_append, List.mem_cons]; rcases hx' with g | g <;> simp [g])
theorem IsT.drop {α : Type} {n : Nat} {enc : α → List Value} {w : World} {b o len : Nat} {zs : List α} (h : IsT n enc w (some ⟨b, o, none⟩) len zs) (k : Nat) : IsT n enc w (some ⟨b, o + k * n, none⟩) (len - k) (zs.drop k) :=
 ⟨by rw [List.length_drop, h.1], fun h0 => by
  obtain ⟨b', o', e, h1, h2⟩ := h.2 (by omega)
  cases e
  refine ⟨b, o + k * n, rfl, h1, fun j x hx i v hv => ?_⟩
  rw [List.getElem?_drop] at hx
  have := h2 (k + j) x hx i v hv
  rwa [Nat.add_mul, ← Nat.add_assoc] at this⟩
end
end
section
open Go.RowKit
theorem mke_bl_apiPoint_0_1 (a0 a1 : Value) (ha0 : a0.oneCell' = true) (ha1 : a1.oneCell' = true) : ∀ w, (Instr.build 76 #[(0, a0), (1, a1)]).run Tryz.prog w = .ok (.agg #[a0, a1]) w := by
 have ea0 : a0.cells = #[a0] := cells_one ha0
 have ea1 : a1.cells = #[a1] := cells_one ha1
 intro w; simp [Instr.build, Instr.fill, cells_agg, Tryz.runUnderlying76, Tryz.zeroValue76, Tryz.sizeOf3, ea0, ea1]
set_option maxRecDepth 100000 in
theorem exact9_any (R : MachR) (M : MachD) (Q : CurR) (C : CurD) (i : Int) (w : World) (hM : IsM w R M) (hC : IsC w Q C) (i0 : -9223372036854775808 ≤ i) (i1 : i ≤ 9223372036854775807) : Calls Tryz.prog 42 #[(.agg (machCells R M)), Q.v, (.int .i64 i)] w (Ret (.tuple #[.int .i64 (exactL M C i).1, .int .i64 (exactL M C i).2]) w) := by
 have hld := hM.sensors.1
 have hkd := hM.ld
 refine calls_ax (vs := [(.agg (machCells R M)), Q.v, (.int .i64 i)]) Tryz.func42 rfl rfl ?_
 refine ac_seq (ac_region ?_)
 refine al_new (fun b => .pointer (some ⟨b, 0, none⟩)) (r_box rfl rfl) rfl rfl rfl ?_
 intro b1
 refine al_new (fun b => .pointer (some ⟨b, 0, none⟩)) (r_box rfl rfl) rfl rfl rfl ?_
 intro b2
 refine al_p (q_assign rfl) (al_p (q_assign rfl) (al_end (aq_then ?_)))
 refine ac_seq (ac_seq (ac_region ?_))
 refine al_p (q_loadAll (i := 1) rfl rfl Tryz.isAgg29 Tryz.sizeOf29 rfl) (al_p (q_loadAll (i := 0) rfl rfl Tryz.isAgg32 Tryz.sizeOf32 rfl) (al_call Tryz.call40 (.cons rfl (.cons rfl .nil)) rfl rfl (fun w1 hs1 => ?_)))
 refine (validCurrents_any R M Q C _ (hM.below hs1.below) (hC.below hs1.below)).mono ?_
 rintro e u1 ⟨rfl, hb_1⟩
 refine ⟨_, rfl, hb_1, ?_⟩
 clear hs1
 refine al_p (q_not rfl) (al_end (aq_then ?_))
 refine ac_cond rfl (fun h1 => ?_) (fun h1 => ?_)
 ·have q1 : validC M C = false := by simpa using h1
  refine ac_seq (ac_region ?_)
  refine al_p (q_assign rfl) (al_p (q_assign rfl) (al_end (aq_then ?_)))
  refine ac_ret (aq_thenR (ret2 Tryz.results42 rfl rfl (fun w9 hs => ?_)))
  exact ⟨by unfold exactL; rw [q1]; rfl, hs.below⟩
 ·have hvc : validC M C = true := by simpa using h1
  have hv := fit2_iff.1 hvc
  have hsn := (sound_of hv.check).sensors.1
  refine ac_skip (aq_then (ac_seq (ac_seq (ac_region ?_))))
  refine al_p (q_move rfl) ?_
  refine al_p (q_fieldAddr 9 rfl Tryz.runUnderlying29 rfl Tryz.sizeOf27 (by decide) rfl) (al_p (q_load (i := 1) rfl rfl rfl Tryz.isAgg27) (al_p (q_lenS rfl Tryz.runUnderlying27) ?_))
  refine al_p (q_sub rfl rfl (by omega)) (al_call Tryz.call78 (.cons rfl (.cons rfl (.cons rfl .nil))) rfl rfl (fun w2 hs2 => ?_))
  refine (mwithin_any i 0 ((R.ld : Int) - 1) _).mono ?_
  rintro e u2 ⟨rfl, rfl⟩
  refine ⟨_, rfl, (Below.refl _ _), ?_⟩
  clear hs2
  refine al_p (q_not rfl) (al_end (aq_then ?_))
  refine ac_cond rfl (fun h2 => ?_) (fun h2 => ?_)
  ·have q2 : wthn i 0 ((M.sensors.length : Int) - 1) = false := by rw [hld]; simpa using h2
   refine ac_seq (ac_region ?_)
   refine al_p (q_assign rfl) (al_p (q_assign rfl) (al_end (aq_then ?_)))
   refine ac_ret (aq_thenR (ret2 Tryz.results42 rfl rfl (fun w9 hs => ?_)))
   exact ⟨by unfold exactL; rw [if_pos hvc, q2]; rfl, hs.below⟩
  ·have hw : wthn i 0 ((M.sensors.length : Int) - 1) = true := by rw [hld]; simpa using h2
   have hwi := wthn_iff.1 hw
   obtain ⟨x, hx⟩ : ∃ x, M.sensors[i.toNat]? = some x := ⟨_, List.getElem?_eq_getElem (by omega)⟩
   have hso := (sound_of hv.check).sensors.2 x (List.mem_of_getElem? hx)
   obtain ⟨b11, o11, hA1, hlt1, hget1⟩ := hM.sensors.2 (by omega)
   have hx1 := hx
   refine ac_skip (aq_then (ac_seq (ac_region ?_)))
   refine al_p (q_fieldAddr 9 rfl Tryz.runUnderlying29 rfl Tryz.sizeOf27 (by decide) rfl) (al_p (q_load (i := 1) rfl rfl rfl Tryz.isAgg27) (al_p (q_move rfl) ?_))
   refine al_p (q_indexAddrA (i := i.toNat) (o11 + i.toNat * 5 + 0) hA1 rfl rfl (by omega) (by omega) Tryz.runUnderlying27 Tryz.sizeOf78 rfl) (al_p (q_loadXs (SensorD.cells x) rfl Tryz.isAgg78 Tryz.sizeOf78 (fun w9 hs j9 v9 h9 => by rw [addr_add]; exact (hs.below.cell (p := ⟨_, _, none⟩) hlt1).trans ((hget1 i.toNat _ hx1) j9 v9 h9)) rfl) (al_new (fun b => .pointer (some ⟨b, 0, none⟩)) (r_alloc Tryz.zeroValue78 rfl) rfl rfl rfl ?_))
   intro b3
   refine al_storeAll (i := 0) rfl rfl rfl rfl Tryz.sizeOf78 rfl rfl .k0 rfl (al_end (aq_then ?_))
   refine ac_seq (ac_region ?_)
   refine al_p (q_fieldAddr 2 rfl Tryz.runUnderlying78 rfl Tryz.sizeOf3 (by decide) rfl) (al_p (q_load (i := 0) rfl rfl rfl Tryz.isAgg3) ?_)
   refine al_p (q_fieldAddr 3 rfl Tryz.runUnderlying78 rfl Tryz.sizeOf3 (by decide) rfl) (al_p (q_load (i := 0) rfl rfl rfl Tryz.isAgg3) (al_p (q_build (.cons rfl (.cons rfl .nil)) (mke_bl_apiPoint_0_1 _ _ rfl rfl)) (al_new (fun b => .pointer (some ⟨b, 0, none⟩)) (r_alloc Tryz.zeroValue76 rfl) rfl rfl rfl ?_)))
   intro b4
   refine al_storeAll (i := 0) rfl rfl rfl rfl Tryz.sizeOf76 rfl rfl .k0 rfl (al_end (aq_then ?_))
   refine ac_seq (ac_seq (ac_region ?_))
   refine al_p (q_fieldAddr 1 rfl Tryz.runUnderlying78 rfl Tryz.sizeOf3 (by decide) rfl) (al_p (q_load (i := 1) rfl rfl rfl Tryz.isAgg3) (al_p (q_eql rfl rfl) (al_end (aq_then ?_))))
   refine ac_cond rfl (fun h3 => ?_) (fun h3 => ?_)
   ·have k1 : x.kind = 1 := by have := of_decide_eq_true h3; omega
    refine ac_seq (ac_region ?_)
    refine al_p (q_loadAll (i := 3) rfl rfl Tryz.isAgg29 Tryz.sizeOf29 rfl) (al_p (q_loadAll (i := 2) rfl rfl Tryz.isAgg32 Tryz.sizeOf32 rfl) (al_p (q_loadAll (i := 0) rfl rfl Tryz.isAgg76 Tryz.sizeOf76 rfl) (al_call Tryz.call79 (.cons rfl (.cons rfl (.cons rfl .nil))) rfl rfl (fun w3 hs3 => ?_))))
    refine (fluxAt_any R M Q C x.r x.z _ (hM.below hs3.below) (hC.below hs3.below) hv).mono ?_
    rintro e u3 ⟨rfl, hb_3⟩
    refine ⟨_, rfl, hb_3, ?_⟩
    clear hs3
    refine al_p (q_assign rfl) (al_p (q_assign rfl) (al_end (aq_then ?_)))
    refine ac_ret (aq_thenR (ret2 Tryz.results42 rfl rfl (fun w9 hs => ?_)))
    exact ⟨by rw [show exactL M C i = (sensP (srcM M C) x, 0) from by unfold exactL; rw [if_pos hvc, if_pos hw, hx]]; unfold sensP; rw [if_pos k1], hs.below⟩
   ·have k1 : x.kind ≠ 1 := by have := of_decide_eq_false h3; omega
    refine ac_skip (aq_then (ac_seq (ac_region ?_)))
    refine al_p (q_loadAll (i := 3) rfl rfl Tryz.isAgg29 Tryz.sizeOf29 rfl) (al_p (q_loadAll (i := 2) rfl rfl Tryz.isAgg32 Tryz.sizeOf32 rfl) (al_p (q_loadAll (i := 0) rfl rfl Tryz.isAgg76 Tryz.sizeOf76 rfl) (al_call Tryz.call80 (.cons rfl (.cons rfl (.cons rfl .nil))) rfl rfl (fun w4 hs4 => ?_))))
    refine (fieldAt_any R M Q C x.r x.z _ (hM.below hs4.below) (hC.below hs4.below) hv (by omega) (by omega) (by omega) (by omega)).mono ?_
    rintro e u4 ⟨rfl, hb_4⟩
    refine ⟨_, rfl, hb_4, ?_⟩
    clear hs4
    refine al_p (q_move rfl) (al_p (q_extract rfl rfl) (al_p (q_extract rfl rfl) (al_p (q_assign rfl) (al_p (q_assign rfl) ?_))))
    refine al_end (aq_then ?_)
    refine ac_seq (ac_seq (ac_region ?_))
    refine al_p (q_fieldAddr 1 rfl Tryz.runUnderlying78 rfl Tryz.sizeOf3 (by decide) rfl) (al_p (q_load (i := 1) rfl rfl rfl Tryz.isAgg3) (al_p (q_eql rfl rfl) (al_end (aq_then ?_))))
    refine ac_cond rfl (fun h4 => ?_) (fun h4 => ?_)
    ·have k2 : x.kind = 2 := by have := of_decide_eq_true h4; omega
     refine ac_seq (ac_region ?_)
     refine al_p (q_move rfl) (al_p (q_assign rfl) (al_p (q_assign rfl) (al_end (aq_then ?_))))
     refine ac_ret (aq_thenR (ret2 Tryz.results42 rfl rfl (fun w9 hs => ?_)))
     exact ⟨by rw [show exactL M C i = (sensP (srcM M C) x, 0) from by unfold exactL; rw [if_pos hvc, if_pos hw, hx]]; unfold sensP; rw [if_neg k1, if_pos k2], hs.below⟩
    ·have k2 : x.kind ≠ 2 := by have := of_decide_eq_false h4; omega
     refine ac_skip (aq_then (ac_seq (ac_region ?_)))
     refine al_p (q_move rfl) (al_p (q_assign rfl) (al_p (q_assign rfl) (al_end (aq_then ?_))))
     refine ac_ret (ret2 Tryz.results42 rfl rfl (fun w9 hs => ?_))
     exact ⟨by rw [show exactL M C i = (sensP (srcM M C) x, 0) from by unfold exactL; rw [if_pos hvc, if_pos hw, hx]]; unfold sensP; rw [if_neg k1, if_neg k2], hs.below⟩
end
section
open Go.RowKit Go.Shelf
theorem isT_zero {b n : Nat} {W : World} (h : ZeroL b n W) : IsT 1 intCells W (some ⟨b, 0, none⟩) n (List.replicate n 0) := by
 refine ⟨by simp, fun _ => ⟨b, 0, rfl, h.lt, fun j x hx k v hv => ?_⟩⟩
 have hk : k = 0 := by
  have := (List.getElem?_eq_some_iff.1 hv).1
  simp [intCells] at this; omega
 subst hk
 have hv' : v = .int .i64 x := by simpa [intCells] using hv.symm
 subst hv'
 have hj : j < n := by
  have := (List.getElem?_eq_some_iff.1 hx).1
  simpa using this
 have hx0 : x = 0 := by
  rw [List.getElem?_replicate, if_pos hj] at hx
  exact (Option.some.inj hx).symm
 subst hx0
 rw [show (0 + j * 1 + 0 : Nat) = j by omega]
 exact h.cell j hj
theorem dark_isC {B : Nat} {W : World} {A : Option Addr} {na ca : Nat} {z1 : List Int} {A2 : Option Addr} {nb cb : Nat} {z2 : List Int} {pb nc : Nat} (h : DarkAt B W A na ca z1 A2 nb cb z2 pb nc) (l1 : na ≤ 1000) (l2 : nb ≤ 1000) (l3 : nc ≤ 1000) :
  IsC W ⟨A, A2, some ⟨pb, 0, none⟩, na, ca, nb, cb, nc, nc⟩ ⟨z1, z2, List.replicate nc 0⟩ := by
 have c1 := h.coils.cap
 have c2 := h.shells.cap
 unfold maxLen at c1 c2
 exact ⟨h.coils.isT, h.shells.isT, isT_zero h.zero, h.coils.le, h.shells.le, Nat.le_refl _, by dsimp only; omega, by dsimp only; omega, by dsimp only; omega, by dsimp only; omega, by dsimp only; omega, by dsimp only; omega⟩
def darkD (C : CurD) : CurD := ⟨C.coils, C.shells, List.replicate C.plasma.length 0⟩
def backL (M : MachD) (C : CurD) (s : Int) : Int × Int := if validC M C = true then exactL M (darkD C) s else (0, 1)
end
end Go.Proofs.YthggkidiidnaoaaGreatDoor
