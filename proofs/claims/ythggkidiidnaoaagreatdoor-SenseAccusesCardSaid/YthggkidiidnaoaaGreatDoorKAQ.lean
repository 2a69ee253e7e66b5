import Derived.Test.YthggkidiidnaoaaGreatDoorKAM
import Derived.Test.YthggkidiidnaoaaGreatDoorKAP
import Derived.Laws.Small
import Derived.Lib.AppendZeros
import Derived.Laws.IdiomCopy
namespace Go.Proofs.YthggkidiidnaoaaGreatDoor
set_option linter.unusedVariables false
set_option linter.unusedSimpArgs false
section
open Go.RowKit Go.Shelf
end
section
set_option autoImplicit false
open Go.RowKit
theorem aq_swapT {E : Cfg} {U : Snaps} {l : Slots} {L L' L1 A B G : Boxes} {X : Act → World → Prop} (hT : Tl L1 (A ++ (B ++ G)) L) (hT' : Tl L1 (B ++ (A ++ G)) L') (h : AQ E U l L' X) : AQ E U l L X := fun a w hf hs => h a w hf (by
 refine hs.perm ?_
 rw [hT.eq, hT'.eq]
 refine List.Perm.append_left L1 ?_
 rw [← List.append_assoc, ← List.append_assoc]
 exact List.Perm.append_right G List.perm_append_comm)
def rowK (g : GridD) (n i : Nat) : List Int := (List.range n).map fun (j : Nat) => infl (cellR g i) (cellZ g i) (cellR g j) (cellZ g j)
theorem rowK_length (g : GridD) (n i : Nat) : (rowK g n i).length = n := by simp [rowK]
def slcs (n : Nat) (r : Option Addr × Nat) : List Value := [.slice r.1 n r.2]
theorem set_fill {α : Type} (xs : List α) (k n : Nat) (z v : α) (hx : xs.length = k) (hk : k < n) : (xs ++ List.replicate (n - k) z).set k v = (xs ++ [v]) ++ List.replicate (n - (k + 1)) z := by
 rw [List.set_append_right _ _ (by omega), hx, Nat.sub_self]
 obtain ⟨m, hm⟩ : ∃ m, n - k = m + 1 := ⟨n - k - 1, by omega⟩
 rw [hm, List.replicate_succ, List.set_cons_zero, show n - (k + 1) = m by omega, List.append_assoc]; rfl
def RowsIn (g : GridD) (n : Nat) (G : Boxes) (rows : List (Option Addr × Nat)) : Prop := ∀ (i : Nat) r, rows[i]? = some r → ∃ b sp, r.1 = some ⟨b, 0, none⟩ ∧ (b, Cont.cells ((rowK g n i).map (Value.int .i64) ++ sp)) ∈ G ∧ n ≤ r.2 ∧ r.2 ≤ 9223372036854775807
theorem RowsIn.snoc {g : GridD} {n : Nat} {G : Boxes} {rows : List (Option Addr × Nat)} (h : RowsIn g n G rows) {o : Gr} {cs : List Value} (hg : gok o n 1 cs) (hn : 0 < n) (hcs : cs = (rowK g n rows.length).map (Value.int .i64)) : RowsIn g n (gt o cs ++ G) (rows ++ [(gA o, gC o)]) := by
 intro i r hr
 rcases Nat.lt_or_ge i rows.length with g1 | g1
 ·rw [List.getElem?_append_left g1] at hr
  obtain ⟨b, sp, e, hm, h1⟩ := h i r hr
  exact ⟨b, sp, e, List.mem_append_right _ hm, h1⟩
 ·rw [List.getElem?_append_right g1] at hr
  have hi : i - rows.length = 0 := by
   have := (List.getElem?_eq_some_iff.1 hr).1
   simp only [List.length_cons, List.length_nil] at this; omega
  rw [hi] at hr
  obtain rfl : (gA o, gC o) = r := by simpa using hr
  obtain ⟨b, c, sp, rfl⟩ := hg.some hn
  obtain ⟨h1, h2, h3⟩ := hg.own b c sp rfl
  refine ⟨b, sp, rfl, List.mem_append_left _ ?_, h1, h2⟩
  rw [show i = rows.length by omega, ← hcs]; simp [gt]
theorem Sta.rowK {N : Nat} {D : List Deferred} {w0 w : World} {U : Snaps} {L G : Boxes} {g : GridD} {n : Nat} {rows : List (Option Addr × Nat)} (h : Sta ⟨N, D, w0, []⟩ U L w) (hG : ∀ x ∈ G, x ∈ L) (hr : RowsIn g n G rows) : ∀ (i : Nat) r, rows[i]? = some r → NewT 1 intCells w0.heap.size w r.1 n r.2 (rowK g n i) := by
 intro i r hi
 obtain ⟨b, sp, e, hm, h1, h2⟩ := hr i r hi
 obtain ⟨j, hj⟩ := List.getElem?_of_mem (hG _ hm)
 refine ⟨?_, fun b' off e' => ?_, h1, h2⟩
 ·rw [e]; exact isT_box (n := 1) (enc := intCells) (fun _ => rfl) (h.at j hj) (flat_int _) (rowK_length _ _ _)
 ·rw [e] at e'; cases e'
  rcases (h.box j _ _ hj).1 with g1 | g1
  ·exact g1
  ·cases g1
end
section
set_option autoImplicit false
open Go.RowKit
section
variable {P : Program} {e0 : Cfg} {U : Snaps} {l : Slots} {L : Boxes} {ops : Array Oper} {Q : Exit → Act → World → Prop} {rest : List Oper} {d : Nat} {v : Value}
variable {ty : TypeId} {pos : String} {af : Array Edge} {g : Option (Nat × Bool)} {dd : Option Nat}
theorem q_max {ox oy : Operand} {x y : Int} {ts : Array TypeId} (hx : E l ox = some (.int .i64 x)) (hy : E l oy = some (.int .i64 y)) : Q1 P e0 U l L ⟨dd, .call ⟨.builtin .max, #[ox, oy], ts⟩, ty, pos, af, g⟩ (.int .i64 (max x y)) := by
 intro a w hf hs
 have e : (if y > x then y else x) = max x y := by omega
 simp [execOp, resolve, invoke, hf.ev hx, hf.ev hy, builtin, run_max_int2, run_min_int2, Result.andThen, e]
theorem q_min {ox oy : Operand} {x y : Int} {ts : Array TypeId} (hx : E l ox = some (.int .i64 x)) (hy : E l oy = some (.int .i64 y)) : Q1 P e0 U l L ⟨dd, .call ⟨.builtin .min, #[ox, oy], ts⟩, ty, pos, af, g⟩ (.int .i64 (min x y)) := by
 intro a w hf hs
 have e : (if y < x then y else x) = min x y := by omega
 simp [execOp, resolve, invoke, hf.ev hx, hf.ev hy, builtin, run_max_int2, run_min_int2, Result.andThen, e]
end
theorem Tl.app {L1 X G L : Boxes} (h : Tl L1 (X ++ G) L) : Tl (L1 ++ X) G L := by
 have := h.eq
 subst this
 clear h
 induction L1 with
 | nil => induction X with
  | nil => exact .z
  | cons x r ih => exact .s ih
 | cons x r ih => exact .s ih
theorem Tl.of {L1 G L : Boxes} (h : L = L1 ++ G) : Tl L1 G L := by
 subst h
 induction L1 with
 | nil => exact .z
 | cons x r ih => exact .s ih
section
variable {P : Program} {e0 : Cfg} {U : Snaps} {l : Slots} {L : Boxes} {ops : Array Oper} {Q : Exit → Act → World → Prop} {rest : List Oper} {d : Nat} {v : Value}
variable {ty : TypeId} {pos : String} {af : Array Edge} {g : Option (Nat × Bool)} {dd : Option Nat}
end
end
section
open Go.RowKit
structure StD where
 (tick : Int) (C : CurD) (heat : List Int) (trip : List Bool)
structure StR where
 (Q : CurR) (H T : Option Addr) (lh ch lt ct : Nat)
def boolCells (b : Bool) : List Value := [.bool b]
abbrev StR.v (R : StR) (n : Int) : Value := .agg #[.int .i64 n, .slice R.Q.A R.Q.la R.Q.ca, .slice R.Q.B R.Q.lb R.Q.cb, .slice R.Q.C R.Q.lc R.Q.cc, .slice R.H R.lh R.ch, .slice R.T R.lt R.ct]
structure IsS (w : World) (R : StR) (S : StD) : Prop where
 cur : IsC w R.Q S.C
 heat : IsT 1 intCells w R.H R.lh S.heat
 trip : IsT 1 boolCells w R.T R.lt S.trip
 lh : R.lh ≤ R.ch
 lt : R.lt ≤ R.ct
 ch : R.ch ≤ 9223372036854775807
 ct : R.ct ≤ 9223372036854775807
 kh : R.lh ≤ 1000000000000000
 kt : R.lt ≤ 9223372036854775807
theorem IsS.below {w w1 : World} {R : StR} {S : StD} (h : IsS w R S) (hb : Below w.heap.size w w1) : IsS w1 R S :=
 ⟨h.cur.below hb, h.heat.below hb, h.trip.below hb, h.lh, h.lt, h.ch, h.ct, h.kh, h.kt⟩
def cA (M : MachD) (k : Nat) : CoilD := M.coils.getD k ⟨⟨#[]⟩, 0, 0, 0, 0, 0, 0, 0⟩
def sA (M : MachD) (k : Nat) : ShellD := M.shells.getD k ⟨0, 0, 0, 0⟩
theorem getD_get {α : Type} {l : List α} {d : α} {k : Nat} (h : k < l.length) : l[k]? = some (l.getD k d) := by
 rw [List.getD_eq_getElem?_getD, List.getElem?_eq_getElem h]; rfl
theorem cA_get {M : MachD} {k : Nat} (h : k < M.coils.length) : M.coils[k]? = some (cA M k) := getD_get h
theorem sA_get {M : MachD} {k : Nat} (h : k < M.shells.length) : M.shells[k]? = some (sA M k) := getD_get h
end
section
set_option autoImplicit false
open Go.RowKit
def mixF (n k : Nat) (F G : Nat → List Value) : List Value := (List.range n).flatMap fun j => if j < k then F j else G j
theorem flatMap_len {α : Type} {z : Nat} (l : List α) {F : α → List Value} (hF : ∀ j, (F j).length = z) : (l.flatMap F).length = l.length * z := by
 induction l with
 | nil => simp
 | cons x r ih => rw [List.flatMap_cons, List.length_append, hF, ih, List.length_cons, Nat.add_mul]; omega
theorem flatMap_ext {α : Type} {l : List α} {F G : α → List Value} (h : ∀ x ∈ l, F x = G x) : l.flatMap F = l.flatMap G := by
 induction l with
 | nil => rfl
 | cons x r ih => rw [List.flatMap_cons, List.flatMap_cons, h x (by simp), ih (fun y hy => h y (by simp [hy]))]
theorem mixF_len {n k z : Nat} {F G : Nat → List Value} (hF : ∀ j, (F j).length = z) (hG : ∀ j, (G j).length = z) : (mixF n k F G).length = n * z := by
 have := flatMap_len (z := z) (List.range n) (F := fun j => if j < k then F j else G j) (fun j => by split <;> simp [hF, hG])
 rw [List.length_range] at this; exact this
theorem mixF_zero (n : Nat) (F G : Nat → List Value) : mixF n 0 F G = (List.range n).flatMap G := by simp [mixF]
theorem mixF_all (n : Nat) (F G : Nat → List Value) : mixF n n F G = (List.range n).flatMap F := flatMap_ext fun j hj => by rw [if_pos (List.mem_range.1 hj)]
theorem range_at {n k : Nat} (hk : k < n) : List.range n = List.range k ++ k :: List.range' (k + 1) (n - (k + 1)) := by
 have h : n = k + ((n - (k + 1)) + 1) := by omega
 conv => lhs; rw [h, List.range_add, List.range_succ_eq_map]
 rw [List.map_cons, List.map_map, Nat.add_zero, List.range'_eq_map_range]
 congr 2
 apply List.map_congr_left
 intro a _
 simp only [Function.comp_def]
 omega
theorem mixF_store {n k z : Nat} {F G : Nat → List Value} (hF : ∀ j, (F j).length = z) (hG : ∀ j, (G j).length = z) (hk : k < n) : mixF n (k + 1) F G = (mixF n k F G).take (k * z) ++ F k ++ (mixF n k F G).drop (k * z + (F k).length) := by
 have e1 : mixF n k F G = (List.range k).flatMap F ++ (G k ++ (List.range' (k + 1) (n - (k + 1))).flatMap G) := by
  unfold mixF
  rw [range_at hk, List.flatMap_append, List.flatMap_cons, if_neg (by omega)]
  congr 1
  ·exact flatMap_ext fun j hj => by rw [if_pos (List.mem_range.1 hj)]
  ·congr 1
   exact flatMap_ext fun j hj => by rw [List.mem_range'_1] at hj; rw [if_neg (by omega)]
 have e2 : mixF n (k + 1) F G = (List.range k).flatMap F ++ (F k ++ (List.range' (k + 1) (n - (k + 1))).flatMap G) := by
  unfold mixF
  rw [range_at hk, List.flatMap_append, List.flatMap_cons, if_pos (by omega)]
  congr 1
  ·exact flatMap_ext fun j hj => by rw [if_pos (by have := List.mem_range.1 hj; omega)]
  ·congr 1
   exact flatMap_ext fun j hj => by rw [List.mem_range'_1] at hj; rw [if_neg (by omega)]
 have hA : ((List.range k).flatMap F).length = k * z := by rw [flatMap_len _ hF, List.length_range]
 rw [e1, e2, List.take_left' hA, ← List.append_assoc ((List.range k).flatMap F) (G k), List.drop_left' (by rw [List.length_append, hA, hG, hF]), List.append_assoc]
theorem made_flat (zs : List Value) (n : Nat) (hz : 0 < zs.length) : (madeCells zs.toArray (n * zs.length)).toList = (List.range n).flatMap (fun _ => zs) := by
 apply List.ext_getElem?
 intro i
 rcases Nat.lt_or_ge i (n * zs.length) with h | h
 ·have hm : i % zs.length < zs.length := Nat.mod_lt _ hz
  have hd : i / zs.length < n := Nat.div_lt_of_lt_mul (by rw [Nat.mul_comm]; exact h)
  have e := flat_get (n := zs.length) (enc := fun _ : Nat => zs) (fun _ => rfl) (List.range n) (i / zs.length) (i / zs.length) (by simp [hd]) (i % zs.length) _ (List.getElem?_eq_getElem hm)
  rw [Nat.div_add_mod'] at e
  rw [e]
  simp [madeCells, h, hm]
 ·rw [List.getElem?_eq_none (by rw [Array.length_toList, size_madeCells]; exact h), List.getElem?_eq_none (by rw [flatMap_len (z := zs.length) _ (fun _ => rfl), List.length_range]; exact h)]
section
variable {P : Program} {e0 : Cfg} {U : Snaps} {l : Slots} {L : Boxes} {ops : Array Oper} {Q : Exit → Act → World → Prop} {rest : List Oper} {d : Nat} {v : Value}
variable {ty : TypeId} {pos : String} {af : Array Edge} {g : Option (Nat × Bool)} {dd : Option Nat}
theorem al_makeAgg {t e bytes n z : Nat} (zs : List Value) {zv : Value} {x : Int} {ol oc : Operand} (hl : E l ol = some (.int .i64 x)) (hc : E l oc = some (.int .i64 x)) (hx : x = (n : Int)) (hu : P.underlying t = some (.slice e)) (hinfo : (P.info? e).map (fun i => (i.zero, i.size, i.bytes)) = some (some zv, z, bytes)) (hz1 : zv.cells = zs.toArray) (hz : zs.length = z) (h0 : Nat.blt 0 z = true) (hm : n ≤ 1000000) (hb : bytes ≤ 10000)
  (hn : Nat.blt d e0.n = true) (hw : want ops l g = some true)
  (k : ∀ b, AL P ops Q e0 U ((d, .slice (some ⟨b, 0, none⟩) n n) :: l) ((b, .cells ((List.range n).flatMap fun _ => zs)) :: L) rest) :
  AL P ops Q e0 U l L (⟨some d, .makeSlice t ol oc, ty, pos, af, g⟩ :: rest) :=
 al_run2 (K := True) hw rfl hn (fun a w hf hs => by
  subst hx
  obtain ⟨i, hi, hzz, h1, rfl⟩ := info_split hinfo
  have hnb : i.bytes * n ≤ 10000 * 1000000 := Nat.mul_le_mul hb hm
  have hb' : (i.bytes : Int) * (n : Int) ≤ 281474976710656 := by
   have h : ((i.bytes * n : Nat) : Int) ≤ 281474976710656 := by omega
   rwa [Int.natCast_mul] at h
  have hr := run_make (P := P) w t e i zv hu hi hzz .i64 .i64 (n : Int) (n : Int) (by omega) (Int.le_refl _) hb' (by omega)
  simp only [Int.toNat_natCast, h1, hz1] at hr
  have hq := made_flat zs n (by rw [hz]; simpa [Nat.blt_eq] using h0)
  rw [hz] at hq
  have hA : madeCells zs.toArray (n * z) = ((List.range n).flatMap fun _ => zs).toArray := Array.ext' (by simpa using hq)
  rw [hA] at hr
  exact ⟨_, _, U, _, by simp [execOp, hf.ev hl, hf.ev hc, hr], hs.alloc _ e, k _⟩)
theorem al_storeV {t b off i z : Nat} {cs cs' vs : List Value} {L' : Boxes} {ox oy : Operand} (hx : E l ox = some (.pointer (some ⟨b, off, none⟩))) (hy : E l oy = some (.agg vs.toArray)) (hi : L[i]? = some (b, .cells cs))
  (hz : ∀ w, (sizeOf t).run P w = .ok z w) (hz' : vs.length = z) (hl : off + z ≤ cs.length) (hone : vs.all (fun v => v.oneCell') = true) (hc : cs' = cs.take off ++ vs ++ cs.drop (off + vs.length)) (hL : SetAt i (b, .cells cs') L L') (hw : want ops l g = some true)
  (k : AL P ops Q e0 U l L' rest) : AL P ops Q e0 U l L (⟨none, .store t ox oy, ty, pos, af, g⟩ :: rest) :=
 al_store (cs' := cs') hx hy rfl hi hz hz' (by simpa using hl) hone hc _ hL.eq hw k
end
def RowsF (F : Nat → List Int) (m : Nat) (G : Boxes) (rows : List (Option Addr × Nat)) : Prop := ∀ (i : Nat) r, rows[i]? = some r → ∃ b sp, r.1 = some ⟨b, 0, none⟩ ∧ (b, Cont.cells ((F i).map (Value.int .i64) ++ sp)) ∈ G ∧ (F i).length = m ∧ m ≤ r.2 ∧ r.2 ≤ 9223372036854775807
theorem RowsF.nil (F : Nat → List Int) (m : Nat) (G : Boxes) : RowsF F m G [] := fun i r h => by simp at h
theorem RowsF.snoc {F : Nat → List Int} {m : Nat} {G : Boxes} {rows : List (Option Addr × Nat)} (h : RowsF F m G rows) {o : Gr} {cs : List Value} (hg : gok o m 1 cs) (hn : 0 < m) (hl : (F rows.length).length = m) (hcs : cs = (F rows.length).map (Value.int .i64)) : RowsF F m (gt o cs ++ G) (rows ++ [(gA o, gC o)]) := by
 intro i r hr
 rcases Nat.lt_or_ge i rows.length with g1 | g1
 ·rw [List.getElem?_append_left g1] at hr
  obtain ⟨b, sp, e, hm, h1⟩ := h i r hr
  exact ⟨b, sp, e, List.mem_append_right _ hm, h1⟩
 ·rw [List.getElem?_append_right g1] at hr
  have hi : i - rows.length = 0 := by
   have := (List.getElem?_eq_some_iff.1 hr).1
   simp only [List.length_cons, List.length_nil] at this; omega
  rw [hi] at hr
  obtain rfl : (gA o, gC o) = r := by simpa using hr
  obtain ⟨b, c, sp, rfl⟩ := hg.some hn
  obtain ⟨h1, h2, h3⟩ := hg.own b c sp rfl
  obtain rfl : i = rows.length := by omega
  refine ⟨b, sp, rfl, List.mem_append_left _ ?_, hl, h1, h2⟩
  rw [← hcs]; simp [gt]
end
section
set_option autoImplicit false
open Go.RowKit
section
variable {P : Program} {e0 : Cfg} {U : Snaps} {l : Slots} {L : Boxes} {ops : Array Oper} {Q : Exit → Act → World → Prop} {rest : List Oper} {d : Nat} {v : Value}
variable {ty : TypeId} {pos : String} {af : Array Edge} {g : Option (Nat × Bool)} {dd : Option Nat}
end
end
section
set_option autoImplicit false
open Go.RowKit
theorem Sta.cellG {E : Cfg} {U : Snaps} {L L1 G : Boxes} {w : World} (h : Sta E U L w) {o : Gr} {cs sp : List Value} {b c k : Nat} {v : Value} (ho : o = some (b, c, sp)) (hT : Tl L1 (gt o cs ++ G) L) (hk : cs[k]? = some v) : w.cell? ⟨b, k, none⟩ = some v := by
 subst ho
 have hL := hT.eq
 simp only [gt, List.singleton_append] at hL
 refine h.cell (i := L1.length) (cs := cs ++ sp) (b := b) (by rw [hL]; simp) ?_
 rw [List.getElem?_append_left (List.getElem?_eq_some_iff.1 hk).1]; exact hk
section
variable {P : Program} {e0 : Cfg} {U : Snaps} {l : Slots} {L : Boxes} {ops : Array Oper} {Q : Exit → Act → World → Prop} {rest : List Oper} {d : Nat} {v : Value}
variable {ty : TypeId} {pos : String} {af : Array Edge} {g : Option (Nat × Bool)} {dd : Option Nat}
end
end
end Go.Proofs.YthggkidiidnaoaaGreatDoor
