import Derived.Test.YtcdhanfjcnfjjaaKAA
import Derived.Test.YtcdhanfjcnfjjaaKAF
import Derived.Test.YtcdhanfjcnfjjaaKAG
import Derived.Test.YtcdhanfjcnfjjaaKAI
import Derived.Laws.AppendOwn
import Derived.Deep.OwnRows
import Derived.Test.YtcdhanfjcnfjjaaRows
import Derived.KernelRfl
import Derived.Laws.StructEq
import Derived.Laws.OwnMore
section
/- Abstract walking: append, make, deferred calls. -/
namespace Go.Proofs.Ytcdhanfjcnfjjaa
set_option linter.unusedVariables false
set_option linter.unusedSimpArgs false
set_option autoImplicit false
open Go.RowKit

section
variable {P : Program} {e0 : Cfg} {U : Snaps} {l : Slots} {L : Boxes} {ops : Array Oper} {Q : Exit → Act → World → Prop} {rest : List Oper} {d : Nat} {v : Value}
variable {ty : TypeId} {pos : String} {af : Array Edge} {g : Option (Nat × Bool)} {dd : Option Nat}

theorem info_split {e z b : Nat} {zv : Value} (h : (P.info? e).map (fun i => (i.zero, i.size, i.bytes)) = some (some zv, z, b)) : ∃ i, P.info? e = some i ∧ i.zero = some zv ∧ i.size = z ∧ i.bytes = b := by
  cases hi : P.info? e with
  | none => rw [hi] at h; cases h
  | some i =>
    rw [hi] at h
    simp only [Option.map_some, Option.some.injEq, Prod.mk.injEq] at h
    exact ⟨i, rfl, h.1, h.2.1, h.2.2⟩
theorem below_drew_alloc (w : World) (o : Obj) : Below w.heap.size w (w.drew.alloc o) := ((Below.refl _ _).drew).alloc (Nat.le_refl _) o
theorem grownCap_le63 (w : World) (need old : Nat) (e : TypeId) (h : need ≤ 9223372036854775807) : grownCap w need old e ≤ 9223372036854775807 := by
  show need + w.tape w.drawn (.appendCap need old e) % (2 ^ 63 - need) ≤ _
  have : w.tape w.drawn (.appendCap need old e) % (2 ^ 63 - need) < 2 ^ 63 - need := Nat.mod_lt _ (by omega)
  omega
theorem run_appendNil {t e z bytes m c : Nat} {zv : Value} {A : Addr} {vs : List Value} {w : World} (ty : TypeId) (hu : P.underlying t = some (.slice e)) (hinfo : (P.info? e).map (fun i => (i.zero, i.size, i.bytes)) = some (some zv, z, bytes)) (hzv : zv.cells.size = z)
    (hs : Sta e0 U L w) (hl : vs.length = m * z) (hvs : ∀ j u, vs[j]? = some u → w.cell? (A.add j) = some u) (h0 : 0 < m) (hm : m ≤ 1000000) (hb : bytes ≤ 10000) :
    ∃ b' cap' sp' w', (Builtin.append_ #[t, t] ty #[.slice none 0 0, .slice (some A) m c]).run P w = .ok (.slice (some ⟨b', 0, none⟩) m cap') w' ∧ m ≤ cap' ∧ cap' ≤ 9223372036854775807 ∧ sp'.length = (cap' - m) * z ∧ Sta e0 U ((b', .cells (vs ++ sp')) :: L) w' := by
  obtain ⟨i, hi, hz, rfl, rfl⟩ := info_split hinfo
  have hmb : m * i.bytes ≤ 1000000 * 10000 := Nat.mul_le_mul hm hb
  have hr := run_append_nil (P := P) w t ty e i zv hu hi hz A m c vs hl hvs h0 (by omega) (by omega)
  have hcap := grownCap_ge w m 0 e
  refine ⟨w.heap.size, grownCap w m 0 e, (Builtin.zeroCells zv.cells (grownCap w m 0 e - m)).toList, _, hr, hcap, grownCap_le63 w m 0 e (by omega), by simp [size_zeroCells, hzv], ?_⟩
  have hA := hs.drew.alloc (vs ++ (Builtin.zeroCells zv.cells (grownCap w m 0 e - m)).toList) e
  have e1 : (vs ++ (Builtin.zeroCells zv.cells (grownCap w m 0 e - m)).toList).toArray = vs.toArray ++ Builtin.zeroCells zv.cells (grownCap w m 0 e - m) := Array.ext' (by simp)
  rw [e1] at hA
  exact hA
theorem run_appendBox {t e z bytes m c nn cap i b : Nat} {zv : Value} {A : Addr} {vs xs sp : List Value} {w : World} (ty : TypeId) (hu : P.underlying t = some (.slice e)) (hinfo : (P.info? e).map (fun i => (i.zero, i.size, i.bytes)) = some (some zv, z, bytes)) (hzv : zv.cells.size = z)
    (hs : Sta e0 U L w) (hi : L[i]? = some (b, .cells (xs ++ sp))) (hx : xs.length = nn * z) (hsp : sp.length = (cap - nn) * z) (hcap : nn ≤ cap) (hcm : cap ≤ 9223372036854775807)
    (hl : vs.length = m * z) (hvs : ∀ j u, vs[j]? = some u → w.cell? (A.add j) = some u) (h1 : ∀ u ∈ vs, u.oneCell' = true) (hm : nn + m ≤ 1000000) (hb : bytes ≤ 10000) :
    ∃ b' cap' sp' w', (Builtin.append_ #[t, t] ty #[.slice (some ⟨b, 0, none⟩) nn cap, .slice (some A) m c]).run P w = .ok (.slice (some ⟨b', 0, none⟩) (nn + m) cap') w' ∧ nn + m ≤ cap' ∧ cap' ≤ 9223372036854775807 ∧ sp'.length = (cap' - (nn + m)) * z ∧ Sta e0 U (L.set i (b', .cells ((xs ++ vs) ++ sp'))) w' := by
  obtain ⟨ti, hti, hz, rfl, rfl⟩ := info_split hinfo
  by_cases hroom : nn + m ≤ cap
  · have hfit : nn * ti.size + vs.length ≤ (xs ++ sp).length := by
      rw [List.length_append, hx, hsp, hl, ← Nat.add_mul]
      have : (nn + m) * ti.size ≤ cap * ti.size := Nat.mul_le_mul_right _ hroom
      have e1 : nn * ti.size + (cap - nn) * ti.size = cap * ti.size := by rw [← Nat.add_mul]; congr 1; omega
      omega
    obtain ⟨w', hr, hst⟩ := run_storeCells P e0 U i b vs L (xs ++ sp) (nn * ti.size) 0 w hs hi (by simpa using hfit) h1
    refine ⟨b, cap, sp.drop vs.length, w', ?_, hroom, hcm, ?_, ?_⟩
    · have hf := run_firstCells_some (P := P) w ti.size m A m c vs hl hvs
      simp [Builtin.append_, run_underlying hu, sizeOf, typeInfo, hti, Builtin.lenOf, hroom, hf, addr_add, hr]
    · rw [List.length_drop, hsp, hl, ← Nat.sub_mul]; congr 1; omega
    · simp only [Nat.add_zero] at hst
      have e1 : (xs ++ sp).take (nn * ti.size) ++ vs ++ (xs ++ sp).drop (nn * ti.size + vs.length) = (xs ++ vs) ++ sp.drop vs.length := by
        rw [← hx, List.take_left, List.drop_append, List.drop_eq_nil_of_le (by omega)]
        simp
      rw [e1] at hst
      exact hst
  · have holds : ∀ j u, xs[j]? = some u → w.cell? ((⟨b, 0, none⟩ : Addr).add j) = some u := fun j u hj => by
      rw [addr_add, Nat.zero_add]
      refine hs.cell hi ?_
      have hlt : j < xs.length := by
        rcases Nat.lt_or_ge j xs.length with h | h
        · exact h
        · rw [List.getElem?_eq_none h] at hj; cases hj
      rw [List.getElem?_append_left hlt]; exact hj
    have hmb : (nn + m) * ti.bytes ≤ 1000000 * 10000 := Nat.mul_le_mul hm hb
    have hr := run_append_grow (P := P) w t ty e ti zv hu hti hz ⟨b, 0, none⟩ nn cap xs hx holds A m c vs hl hvs (by omega) (by omega) (growslice_fits (by omega) (by omega))
    have hcap' := grownCap_ge w (nn + m) cap e
    refine ⟨w.heap.size, grownCap w (nn + m) cap e, (Builtin.zeroCells zv.cells (grownCap w (nn + m) cap e - (nn + m))).toList, _, hr, hcap', grownCap_le63 w (nn + m) cap e (by omega), by simp [size_zeroCells, hzv], ?_⟩
    refine hs.renew hi (below_drew_alloc w _) (Nat.le_refl _) ?_
    have hA := BoxAt.new w.drew ((xs ++ vs) ++ (Builtin.zeroCells zv.cells (grownCap w (nn + m) cap e - (nn + m))).toList) e
    have e1 : ((xs ++ vs) ++ (Builtin.zeroCells zv.cells (grownCap w (nn + m) cap e - (nn + m))).toList).toArray = xs.toArray ++ vs.toArray ++ Builtin.zeroCells zv.cells (grownCap w (nn + m) cap e - (nn + m)) := Array.ext' (by simp)
    rw [e1] at hA
    exact hA

theorem al_run2 {o : Oper} {K : Prop} (hg : want ops l o.guard = some true) (hd : o.dst = some d) (hn : Nat.blt d e0.n = true)
    (h : ∀ a w, Fr e0 l a → Sta e0 U L w → ∃ v w' U' L', (execOp a.eval o).run P w = .ok (.value v) w' ∧ Sta e0 U' L' w' ∧ AL P ops Q e0 U' ((d, v) :: l) L' rest) : AL P ops Q e0 U l L (o :: rest) := by
  intro a w hf hs
  unfold wpList
  rw [if_pos (want_ok hf hg)]
  refine Or.inl ?_
  unfold Oper.wp
  obtain ⟨v, w', U', L', hr, hs', hk⟩ := h a w hf hs
  rw [hr]
  show wpList P ops Q rest (a.put o.dst v) w'
  rw [hd]
  exact hk _ _ (hf.put hn v) hs'
theorem ex_append {ox oy : Operand} {t : TypeId} {vx vy : Value} {a : Act} (hx : a.eval ox = vx) (hy : a.eval oy = vy) {w w' : World} (hr : (Builtin.append_ #[t, t] ty #[vx, vy]).run P w = .ok v w') :
    (execOp a.eval ⟨dd, .call ⟨.builtin .append, #[ox, oy], #[t, t]⟩, ty, pos, af, g⟩).run P w = .ok (.value v) w' := by
  simp [execOp, resolve, invoke, builtin, hx, hy, hr]
theorem made_one (z : Value) (n : Nat) : madeCells #[z] n = (List.replicate n z).toArray := by
  apply Array.ext'
  simp [madeCells, List.map_const', Nat.mod_one]
/-- make of n cells of one cell each -/
theorem al_makeInts {t e bytes n : Nat} {z : Value} {x : Int} {ol oc : Operand} (hl : E l ol = some (.int .i64 x)) (hc : E l oc = some (.int .i64 x)) (hx : x = (n : Int)) (hu : P.underlying t = some (.slice e)) (hinfo : (P.info? e).map (fun i => (i.zero, i.size, i.bytes)) = some (some z, 1, bytes)) (hz1 : z.cells = #[z]) (hm : n ≤ 1000000) (hb : bytes ≤ 10000)
    (hn : Nat.blt d e0.n = true) (hw : want ops l g = some true)
    (k : ∀ b, AL P ops Q e0 U ((d, .slice (some ⟨b, 0, none⟩) n n) :: l) ((b, .cells (List.replicate n z)) :: L) rest) :
    AL P ops Q e0 U l L (⟨some d, .makeSlice t ol oc, ty, pos, af, g⟩ :: rest) :=
  al_run2 (K := True) hw rfl hn (fun a w hf hs => by
    subst hx
    have hnb : bytes * n ≤ 10000 * 1000000 := Nat.mul_le_mul hb hm
    have hr := run_make_row' (P := P) t e z bytes hu hinfo hz1 .i64 .i64 n (by omega) (by omega) w
    rw [made_one] at hr
    exact ⟨_, _, U, _, by simp [execOp, hf.ev hl, hf.ev hc, hr], hs.alloc _ e, k _⟩)
end
end Go.Proofs.Ytcdhanfjcnfjjaa
end
section
/- Abstract walking: maps. -/
namespace Go.Proofs.Ytcdhanfjcnfjjaa
set_option linter.unusedVariables false
set_option linter.unusedSimpArgs false
set_option autoImplicit false
open Go.RowKit

section
variable {P : Program} {e0 : Cfg} {U : Snaps} {l : Slots} {L : Boxes} {ops : Array Oper} {Q : Exit → Act → World → Prop} {rest : List Oper} {d : Nat} {v : Value}
variable {ty : TypeId} {pos : String} {af : Array Edge} {g : Option (Nat × Bool)} {dd : Option Nat}

end
end Go.Proofs.Ytcdhanfjcnfjjaa
end
section
/- Abstract walking: comparisons with nil, of structs. -/
namespace Go.Proofs.Ytcdhanfjcnfjjaa
set_option linter.unusedVariables false
set_option linter.unusedSimpArgs false
set_option autoImplicit false
open Go.RowKit
section
variable {P : Program} {e0 : Cfg} {U : Snaps} {l : Slots} {L : Boxes} {ops : Array Oper} {Q : Exit → Act → World → Prop} {rest : List Oper} {d : Nat} {v : Value}
variable {ty : TypeId} {pos : String} {af : Array Edge} {g : Option (Nat × Bool)} {dd : Option Nat}
theorem q_bin {bo : BinOp} {xt yt : TypeId} {ox oy : Operand} {x y : Value} (hx : E l ox = some x) (hy : E l oy = some y) (hg : ∀ w, (eqGuard bo xt ox oy x y).run P w = .ok () w) (hr : ∀ w, (binOp bo xt x y).run P w = .ok v w) : Q1 P e0 U l L ⟨dd, .binOp bo xt ox oy yt, ty, pos, af, g⟩ v := by
  intro a w hf hs
  simp [execOp, hf.ev hx, hf.ev hy, hg, hr]
/-- structs -/
theorem q_cmpS {bo : BinOp} {xt yt : TypeId} {ox oy : Operand} {xs ys : Array Value} (hx : E l ox = some (.agg xs)) (hy : E l oy = some (.agg ys)) (hm : P.eqGuardType P.depth xt = false) (hr : ∀ w, (binOp bo xt (.agg xs) (.agg ys)).run P w = .ok v w) : Q1 P e0 U l L ⟨dd, .binOp bo xt ox oy yt, ty, pos, af, g⟩ v :=
  q_bin hx hy (fun w => run_eqGuard_agg w bo xt ox oy xs ys hm) hr
end
end Go.Proofs.Ytcdhanfjcnfjjaa
end
section
/- Package machine: the contract of ValidCurrents, over this seat's translation (written by ax_mv.py). -/
namespace Go.Proofs.Ytcdhanfjcnfjjaa
set_option linter.unusedVariables false
set_option linter.unusedSimpArgs false
open Go.RowKit

theorem rng_zero {b : Bool} (h : rng b = 0) : b = true := by unfold rng at h; split at h <;> simp_all
theorem orL_zero {x : Int} {r : List Int} (h : orL (x :: r) = 0) : x = 0 ∧ orL r = 0 := by
  have : (if x = 0 then orL r else x) = 0 := h
  split at this
  · exact ⟨‹_›, this⟩
  · exact absurd this ‹_›
/-- The grid of a valid machine. -/
theorem grid_of {M : MachD} (h : checkC M = 0) : gridC M.grid = 0 := (orL_zero (orL_zero (orL_zero (orL_zero (orL_zero h).2).2).2).2).1
theorem fine_grid {g : GridD} (h : gridC g = 0) : g.Fine := by
  unfold gridC at h
  split at h
  · split at h
    · exact fine_of ‹_› ‹_›
    · cases h
  · cases h
theorem int_eq (a b : Nat) : (((a : Int) == b) = decide (a = b)) := by
  by_cases h : a = b
  · subst h; simp
  · rw [decide_eq_false h, beq_eq_false_iff_ne]; omega

end Go.Proofs.Ytcdhanfjcnfjjaa
end
section
/- Package machine: Exact of a flux sensor over a machine that has neither coils nor shells, over this seat's translation. -/
namespace Go.Proofs.Ytcdhanfjcnfjjaa
set_option linter.unusedVariables false
set_option linter.unusedSimpArgs false
open Go.RowKit Go.Shelf

end Go.Proofs.Ytcdhanfjcnfjjaa
end
section
/- Package machine: the flux of valid currents as a plain sum; fluxAt over them, over this seat's translation (written by mk_fld.py). -/
namespace Go.Proofs.Ytcdhanfjcnfjjaa
set_option linter.unusedVariables false
set_option linter.unusedSimpArgs false
open Go.RowKit Go.Shelf

theorem eachGo_all {α : Type} {chk : α → List α → Int} : ∀ (l pre : List α), eachGo chk pre l = 0 → ∀ x ∈ l, ∃ e, chk x e = 0
  | [], _, _, x, hx => by cases hx
  | y :: r, pre, h, x, hx => by
    unfold eachGo at h
    by_cases hc : chk y pre = 0
    · rw [if_pos hc] at h
      rcases List.mem_cons.1 hx with rfl | hx
      · exact ⟨pre, hc⟩
      · exact eachGo_all r _ h x hx
    · rw [if_neg hc] at h; exact absurd h hc
theorem eachC_all {α : Type} {chk : α → List α → Int} {most : Int} {l : List α} (h : eachC chk most l = 0) : (l.length : Int) ≤ most ∧ ∀ x ∈ l, ∃ e, chk x e = 0 := by
  unfold eachC at h
  by_cases hm : most < l.length
  · rw [if_pos hm] at h; simp at h
  · rw [if_neg hm] at h; exact ⟨by omega, eachGo_all _ _ h⟩
theorem near_iff {r z f : Int} : nearB r z f = true ↔ (-f ≤ r ∧ r ≤ f) ∧ -f ≤ z ∧ z ≤ f := by simp [nearB, wthn]
theorem coil_ok {c : CoilD} {e : List CoilD} (h : coilC c e = 0) : (1 ≤ c.turns ∧ c.turns ≤ 100) ∧ (-60 ≤ c.r ∧ c.r ≤ 60) ∧ -60 ≤ c.z ∧ c.z ≤ 60 := by
  unfold coilC at h
  split at h
  · split at h
    · simp at h
    · have h1 := rng_zero h
      simp only [Bool.and_eq_true] at h1
      exact ⟨wthn_iff.1 h1.2.1, near_iff.1 h1.1⟩
  · simp at h
theorem shell_ok {c : ShellD} {e : List ShellD} (h : shellC c e = 0) : (-60 ≤ c.r ∧ c.r ≤ 60) ∧ -60 ≤ c.z ∧ c.z ≤ 60 := by
  unfold shellC at h
  have h1 := rng_zero h
  simp only [Bool.and_eq_true] at h1
  exact near_iff.1 h1.1
theorem sensor_ok {c : SensorD} {e : List SensorD} (h : sensorC c e = 0) : (1 ≤ c.kind ∧ c.kind ≤ 3) ∧ ((-60 ≤ c.r ∧ c.r ≤ 60) ∧ -60 ≤ c.z ∧ c.z ≤ 60) ∧ 0 ≤ c.error ∧ c.error ≤ 1000000000 := by
  unfold sensorC at h
  split at h
  · split at h
    · simp at h
    · have h1 := rng_zero h
      simp only [Bool.and_eq_true] at h1
      exact ⟨wthn_iff.1 h1.1, near_iff.1 h1.2.1, wthn_iff.1 h1.2.2⟩
  · simp at h
/-- What a machine without an error is. -/
structure Sound (M : MachD) : Prop where
  coils : (M.coils.length : Int) ≤ 12 ∧ ∀ x ∈ M.coils, (1 ≤ x.turns ∧ x.turns ≤ 100) ∧ (-60 ≤ x.r ∧ x.r ≤ 60) ∧ -60 ≤ x.z ∧ x.z ≤ 60
  shells : (M.shells.length : Int) ≤ 16 ∧ ∀ x ∈ M.shells, (-60 ≤ x.r ∧ x.r ≤ 60) ∧ -60 ≤ x.z ∧ x.z ≤ 60
  sensors : (M.sensors.length : Int) ≤ 24 ∧ ∀ x ∈ M.sensors, (1 ≤ x.kind ∧ x.kind ≤ 3) ∧ ((-60 ≤ x.r ∧ x.r ≤ 60) ∧ -60 ≤ x.z ∧ x.z ≤ 60) ∧ 0 ≤ x.error ∧ x.error ≤ 1000000000
  grid : M.grid.Fine
theorem sound_of {M : MachD} (h : checkC M = 0) : Sound M := by
  have h1 := (orL_zero (orL_zero h).2)
  have h2 := orL_zero h1.2
  have h6 := (orL_zero (orL_zero (orL_zero h2.2).2).2).1
  have c := eachC_all h1.1
  have s := eachC_all h2.1
  have q := eachC_all h6
  exact ⟨⟨c.1, fun x hx => (c.2 x hx).elim fun e he => coil_ok he⟩, ⟨s.1, fun x hx => (s.2 x hx).elim fun e he => shell_ok he⟩, ⟨q.1, fun x hx => (q.2 x hx).elim fun e he => sensor_ok he⟩, fine_grid (grid_of h)⟩
end Go.Proofs.Ytcdhanfjcnfjjaa
end
section
/- The cells of a machine: Cells, at, Cell of the specification, and Cell of package machine, over this seat's translation (written by mk_refd.py). -/
namespace Go.Proofs.Ytcdhanfjcnfjjaa
set_option linter.unusedVariables false
set_option linter.unusedSimpArgs false
open Go.RowKit Go.Shelf

end Go.Proofs.Ytcdhanfjcnfjjaa
end
section
/- Lists of whole numbers in new memory: slices.Clone, over this seat's translation. -/
namespace Go.Proofs.Ytcdhanfjcnfjjaa
set_option linter.unusedVariables false
set_option linter.unusedSimpArgs false
open Go.RowKit Go.Shelf

/-- A list of whole numbers that lies in the blocks from B on. -/
structure NewI (B : Nat) (w' : World) (A : Option Addr) (len cap : Nat) (zs : List Int) : Prop where
  isT : IsT 1 intCells w' A len zs
  le : len ≤ cap
  cap : cap ≤ maxLen
  new : ∀ a, A = some a → B ≤ a.block
  lt : ∀ a, A = some a → a.block < w'.heap.size
theorem NewI.below {B : Nat} {w1 w2 : World} {A : Option Addr} {len cap : Nat} {zs : List Int} (h : NewI B w1 A len cap zs) (hb : Below w1.heap.size w1 w2) : NewI B w2 A len cap zs :=
  ⟨h.isT.below hb, h.le, h.cap, h.new, fun a ha => Nat.lt_of_lt_of_le (h.lt a ha) hb.size⟩

theorem NewI.drew {B : Nat} {W : World} {A : Option Addr} {len cap : Nat} {zs : List Int} (h : NewI B W A len cap zs) : NewI B W.drew A len cap zs :=
  h.below ((Below.refl _ _).drew)
theorem NewI.alloc {B : Nat} {W : World} {A : Option Addr} {len cap : Nat} {zs : List Int} (h : NewI B W A len cap zs) (o : Obj) : NewI B (W.alloc o) A len cap zs :=
  h.below ((Below.refl _ _).alloc (Nat.le_refl _) o)
theorem NewI.setCell {B : Nat} {W : World} {A : Option Addr} {len cap : Nat} {zs : List Int} (h : NewI B W A len cap zs) {p : Addr} (hp : ∀ a, A = some a → a.block ≠ p.block) (v : Value) : NewI B (W.setCell p v) A len cap zs :=
  ⟨⟨h.isT.1, fun h0 => by
      obtain ⟨b, o, e, h1, h2⟩ := h.isT.2 h0
      refine ⟨b, o, e, by rw [World.size_setCell]; exact h1, fun j x hx i u hu => ?_⟩
      rw [World.cell?_setCell_other _ _ _ _ (fun e2 => hp _ e (by first | exact congrArg Addr.block e2 | exact (congrArg Addr.block e2).symm))]
      exact h2 j x hx i u hu⟩, h.le, h.cap, h.new, fun a ha => by rw [World.size_setCell]; exact h.lt a ha⟩
theorem NewI.mono {B B' : Nat} {W : World} {A : Option Addr} {len cap : Nat} {zs : List Int} (h : NewI B W A len cap zs) (hB : B' ≤ B) : NewI B' W A len cap zs :=
  ⟨h.isT, h.le, h.cap, fun a ha => Nat.le_trans hB (h.new a ha), h.lt⟩

/-- Block b begins with n zeros, none marked. -/
structure ZeroL (b n : Nat) (W : World) : Prop where
  lt : b < W.heap.size
  cell : ∀ j, j < n → W.cell? ⟨b, j, none⟩ = some (.int .i64 0)
  mark : ∀ j, j < n → W.frozen? ⟨b, j, none⟩ = false
theorem ZeroL.new (W : World) (n : Nat) (t : TypeId) (hn : n ≤ 1000000000000) : ZeroL W.heap.size n (W.alloc (.cells (madeCells #[.int .i64 0] n) t)) := by
  have hrow := World.ownsRow_lit (base := W.heap.size) (size := 1) (e := t) W (madeCells #[.int .i64 0] n) n (Nat.le_refl _) (by unfold maxLen; omega) (by rw [size_madeCells]; omega)
  refine ⟨by simp, fun j hj => ?_, fun j hj => hrow.frozenAt j⟩
  rw [hrow.cellAt j (by omega), toList_madeCells_one]
  simp [List.getElem?_replicate, hj]
theorem ZeroL.below {b n : Nat} {W W' : World} (h : ZeroL b n W) (hb : Below W.heap.size W W') : ZeroL b n W' :=
  ⟨Nat.lt_of_lt_of_le h.lt hb.size, fun j hj => (hb.cell (p := ⟨b, j, none⟩) h.lt).trans (h.cell j hj), fun j hj => (hb.frozen (p := ⟨b, j, none⟩) h.lt).trans (h.mark j hj)⟩
theorem ZeroL.drew {b n : Nat} {W : World} (h : ZeroL b n W) : ZeroL b n W.drew := h.below ((Below.refl _ _).drew)
theorem ZeroL.alloc {b n : Nat} {W : World} (h : ZeroL b n W) (o : Obj) : ZeroL b n (W.alloc o) := h.below ((Below.refl _ _).alloc (Nat.le_refl _) o)
theorem ZeroL.setCell {b n : Nat} {W : World} (h : ZeroL b n W) {p : Addr} (hp : b ≠ p.block) (v : Value) : ZeroL b n (W.setCell p v) :=
  ⟨by rw [World.size_setCell]; exact h.lt, fun j hj => by
      rw [World.cell?_setCell_other _ _ _ _ (fun e => hp (by first | exact congrArg Addr.block e | exact (congrArg Addr.block e).symm))]; exact h.cell j hj, fun j hj => by rw [World.frozen?_setCell]; exact h.mark j hj⟩
end Go.Proofs.Ytcdhanfjcnfjjaa
end
section
/- Blocks whose cells are known, carried on as long as the memory below stays, over this seat's translation (written by mk_whc.py). -/
namespace Go.Proofs.Ytcdhanfjcnfjjaa
set_option linter.unusedVariables false
set_option linter.unusedSimpArgs false
open Go.RowKit

/-- Block b holds the values vs from its first cell on. -/
def BoxL (b : Nat) (vs : List Value) (W : World) : Prop := b < W.heap.size ∧ ∀ (k : Nat) (v : Value), vs[k]? = some v → W.cell? ⟨b, k, none⟩ = some v
theorem BoxL.at {b : Nat} {vs : List Value} {W : World} (h : BoxL b vs W) (k : Nat) (v : Value) (hv : vs[k]? = some v) : W.cell? ⟨b, k, none⟩ = some v := h.2 k v hv
theorem BoxL.below {b : Nat} {vs : List Value} {W W' : World} (h : BoxL b vs W) (hb : Below W.heap.size W W') : BoxL b vs W' :=
  ⟨Nat.lt_of_lt_of_le h.1 hb.size, fun k v hv => (hb.cell (p := ⟨b, k, none⟩) h.1).trans (h.2 k v hv)⟩
/-- The first n cells of block b bear no mark. -/
def MarkL (b n : Nat) (W : World) : Prop := b < W.heap.size ∧ ∀ k, k < n → W.frozen? ⟨b, k, none⟩ = false
theorem MarkL.at {b n : Nat} {W : World} (h : MarkL b n W) (k : Nat) (hk : k < n) : W.frozen? ⟨b, k, none⟩ = false := h.2 k hk
theorem MarkL.below {b n : Nat} {W W' : World} (h : MarkL b n W) (hb : Below W.heap.size W W') : MarkL b n W' :=
  ⟨Nat.lt_of_lt_of_le h.1 hb.size, fun k hk => (hb.frozen (p := ⟨b, k, none⟩) h.1).trans (h.2 k hk)⟩
end Go.Proofs.Ytcdhanfjcnfjjaa
end
section
/- Plain arithmetic of numbers in digits of base 10,000, the lowest first. -/
namespace Go.Proofs.Ytcdhanfjcnfjjaa
set_option linter.unusedVariables false
set_option linter.unusedSimpArgs false

/-- The number that digits make. -/
def val : List Int → Int
  | [] => 0
  | d :: r => d + 10000 * val r
def Digs (l : List Int) : Prop := ∀ d ∈ l, 0 ≤ d ∧ d < 10000
/-- No high zeros. -/
def Canon (l : List Int) : Prop := Digs l ∧ ∀ d, l.getLast? = some d → d ≠ 0

theorem Digs.tail {d : Int} {l : List Int} (h : Digs (d :: l)) : (0 ≤ d ∧ d < 10000) ∧ Digs l := ⟨h d (List.mem_cons_self ..), fun x hx => h x (List.mem_cons_of_mem _ hx)⟩

theorem neg_tmod (m : Int) (h : 0 ≤ m) : (-m).tmod 10000 = -(m % 10000) := by rw [Int.neg_tmod, Int.tmod_eq_emod_of_nonneg h]
theorem neg_tdiv (m : Int) (h : 0 ≤ m) : (-m).tdiv 10000 = -(m / 10000) := by rw [Int.neg_tdiv, Int.tdiv_eq_ediv_of_nonneg h]

end Go.Proofs.Ytcdhanfjcnfjjaa
end
