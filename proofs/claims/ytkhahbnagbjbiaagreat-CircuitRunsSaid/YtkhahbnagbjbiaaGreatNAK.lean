import Derived.Test.YtkhahbnagbjbiaaGreatNAJ
import Derived.Laws.AppendOwn
import Derived.Deep.OwnRows
section
/- Abstract walking: append, make, deferred calls. -/
namespace Go.Proofs.YtkhahbnagbjbiaaGreat
set_option linter.unusedVariables false
set_option linter.unusedSimpArgs false
set_option autoImplicit false
open Go.RowKit

section
variable {P : Program} {e0 : Cfg} {U : Snaps} {l : Slots} {L : Boxes} {ops : Array Oper} {Q : Exit → Act → World → Prop} {rest : List Oper} {d : Nat} {v : Value}
variable {ty : TypeId} {pos : String} {af : Array Edge} {g : Option (Nat × Bool)} {dd : Option Nat}

theorem info_split {e z b : Nat} {zv : Value} (h : (P.info? e).map (fun i => (i.zero, i.size, i.bytes)) = some (some zv, z, b)) : ∃ i, P.info? e = some i ∧ i.zero = some zv ∧ i.size = z ∧ i.bytes = b := by
  cases hi : P.info? e with
  | none => rw [hi] at h; cases h
  | some i =>
    rw [hi] at h
    simp only [Option.map_some, Option.some.injEq, Prod.mk.injEq] at h
    exact ⟨i, rfl, h.1, h.2.1, h.2.2⟩
theorem below_drew_alloc (w : World) (o : Obj) : Below w.heap.size w (w.drew.alloc o) := ((Below.refl _ _).drew).alloc (Nat.le_refl _) o
theorem grownCap_le63 (w : World) (need old : Nat) (e : TypeId) (h : need ≤ 9223372036854775807) : grownCap w need old e ≤ 9223372036854775807 := by
  show need + w.tape w.drawn (.appendCap need old e) % (2 ^ 63 - need) ≤ _
  have : w.tape w.drawn (.appendCap need old e) % (2 ^ 63 - need) < 2 ^ 63 - need := Nat.mod_lt _ (by omega)
  omega
theorem run_appendNil {t e z bytes m c : Nat} {zv : Value} {A : Addr} {vs : List Value} {w : World} (ty : TypeId) (hu : P.underlying t = some (.slice e)) (hinfo : (P.info? e).map (fun i => (i.zero, i.size, i.bytes)) = some (some zv, z, bytes)) (hzv : zv.cells.size = z)
    (hs : Sta e0 U L w) (hl : vs.length = m * z) (hvs : ∀ j u, vs[j]? = some u → w.cell? (A.add j) = some u) (h0 : 0 < m) (hm : m ≤ 1000000) (hb : bytes ≤ 10000) :
    ∃ b' cap' sp' w', (Builtin.append_ #[t, t] ty #[.slice none 0 0, .slice (some A) m c]).run P w = .ok (.slice (some ⟨b', 0, none⟩) m cap') w' ∧ m ≤ cap' ∧ cap' ≤ 9223372036854775807 ∧ sp'.length = (cap' - m) * z ∧ Sta e0 U ((b', .cells (vs ++ sp')) :: L) w' := by
  obtain ⟨i, hi, hz, rfl, rfl⟩ := info_split hinfo
  have hmb : m * i.bytes ≤ 1000000 * 10000 := Nat.mul_le_mul hm hb
  have hr := run_append_nil (P := P) w t ty e i zv hu hi hz A m c vs hl hvs h0 (by omega) (by omega)
  have hcap := grownCap_ge w m 0 e
  refine ⟨w.heap.size, grownCap w m 0 e, (Builtin.zeroCells zv.cells (grownCap w m 0 e - m)).toList, _, hr, hcap, grownCap_le63 w m 0 e (by omega), by simp [size_zeroCells, hzv], ?_⟩
  have hA := hs.drew.alloc (vs ++ (Builtin.zeroCells zv.cells (grownCap w m 0 e - m)).toList) e
  have e1 : (vs ++ (Builtin.zeroCells zv.cells (grownCap w m 0 e - m)).toList).toArray = vs.toArray ++ Builtin.zeroCells zv.cells (grownCap w m 0 e - m) := Array.ext' (by simp)
  rw [e1] at hA
  exact hA
theorem run_appendBox {t e z bytes m c nn cap i b : Nat} {zv : Value} {A : Addr} {vs xs sp : List Value} {w : World} (ty : TypeId) (hu : P.underlying t = some (.slice e)) (hinfo : (P.info? e).map (fun i => (i.zero, i.size, i.bytes)) = some (some zv, z, bytes)) (hzv : zv.cells.size = z)
    (hs : Sta e0 U L w) (hi : L[i]? = some (b, .cells (xs ++ sp))) (hx : xs.length = nn * z) (hsp : sp.length = (cap - nn) * z) (hcap : nn ≤ cap) (hcm : cap ≤ 9223372036854775807)
    (hl : vs.length = m * z) (hvs : ∀ j u, vs[j]? = some u → w.cell? (A.add j) = some u) (h1 : ∀ u ∈ vs, u.oneCell' = true) (hm : nn + m ≤ 1000000) (hb : bytes ≤ 10000) :
    ∃ b' cap' sp' w', (Builtin.append_ #[t, t] ty #[.slice (some ⟨b, 0, none⟩) nn cap, .slice (some A) m c]).run P w = .ok (.slice (some ⟨b', 0, none⟩) (nn + m) cap') w' ∧ nn + m ≤ cap' ∧ cap' ≤ 9223372036854775807 ∧ sp'.length = (cap' - (nn + m)) * z ∧ Sta e0 U (L.set i (b', .cells ((xs ++ vs) ++ sp'))) w' := by
  obtain ⟨ti, hti, hz, rfl, rfl⟩ := info_split hinfo
  by_cases hroom : nn + m ≤ cap
  · have hfit : nn * ti.size + vs.length ≤ (xs ++ sp).length := by
      rw [List.length_append, hx, hsp, hl, ← Nat.add_mul]
      have : (nn + m) * ti.size ≤ cap * ti.size := Nat.mul_le_mul_right _ hroom
      have e1 : nn * ti.size + (cap - nn) * ti.size = cap * ti.size := by rw [← Nat.add_mul]; congr 1; omega
      omega
    obtain ⟨w', hr, hst⟩ := run_storeCells P e0 U i b vs L (xs ++ sp) (nn * ti.size) 0 w hs hi (by simpa using hfit) h1
    refine ⟨b, cap, sp.drop vs.length, w', ?_, hroom, hcm, ?_, ?_⟩
    · have hf := run_firstCells_some (P := P) w ti.size m A m c vs hl hvs
      simp [Builtin.append_, run_underlying hu, sizeOf, typeInfo, hti, Builtin.lenOf, hroom, hf, addr_add, hr]
    · rw [List.length_drop, hsp, hl, ← Nat.sub_mul]; congr 1; omega
    · simp only [Nat.add_zero] at hst
      have e1 : (xs ++ sp).take (nn * ti.size) ++ vs ++ (xs ++ sp).drop (nn * ti.size + vs.length) = (xs ++ vs) ++ sp.drop vs.length := by
        rw [← hx, List.take_left, List.drop_append, List.drop_eq_nil_of_le (by omega)]
        simp
      rw [e1] at hst
      exact hst
  · have holds : ∀ j u, xs[j]? = some u → w.cell? ((⟨b, 0, none⟩ : Addr).add j) = some u := fun j u hj => by
      rw [addr_add, Nat.zero_add]
      refine hs.cell hi ?_
      have hlt : j < xs.length := by
        rcases Nat.lt_or_ge j xs.length with h | h
        · exact h
        · rw [List.getElem?_eq_none h] at hj; cases hj
      rw [List.getElem?_append_left hlt]; exact hj
    have hmb : (nn + m) * ti.bytes ≤ 1000000 * 10000 := Nat.mul_le_mul hm hb
    have hr := run_append_grow (P := P) w t ty e ti zv hu hti hz ⟨b, 0, none⟩ nn cap xs hx holds A m c vs hl hvs (by omega) (by omega) (growslice_fits (by omega) (by omega))
    have hcap' := grownCap_ge w (nn + m) cap e
    refine ⟨w.heap.size, grownCap w (nn + m) cap e, (Builtin.zeroCells zv.cells (grownCap w (nn + m) cap e - (nn + m))).toList, _, hr, hcap', grownCap_le63 w (nn + m) cap e (by omega), by simp [size_zeroCells, hzv], ?_⟩
    refine hs.renew hi (below_drew_alloc w _) (Nat.le_refl _) ?_
    have hA := BoxAt.new w.drew ((xs ++ vs) ++ (Builtin.zeroCells zv.cells (grownCap w (nn + m) cap e - (nn + m))).toList) e
    have e1 : ((xs ++ vs) ++ (Builtin.zeroCells zv.cells (grownCap w (nn + m) cap e - (nn + m))).toList).toArray = xs.toArray ++ vs.toArray ++ Builtin.zeroCells zv.cells (grownCap w (nn + m) cap e - (nn + m)) := Array.ext' (by simp)
    rw [e1] at hA
    exact hA

theorem al_run2 {o : Oper} {K : Prop} (hg : want ops l o.guard = some true) (hd : o.dst = some d) (hn : Nat.blt d e0.n = true)
    (h : ∀ a w, Fr e0 l a → Sta e0 U L w → ∃ v w' U' L', (execOp a.eval o).run P w = .ok (.value v) w' ∧ Sta e0 U' L' w' ∧ AL P ops Q e0 U' ((d, v) :: l) L' rest) : AL P ops Q e0 U l L (o :: rest) := by
  intro a w hf hs
  unfold wpList
  rw [if_pos (want_ok hf hg)]
  refine Or.inl ?_
  unfold Oper.wp
  obtain ⟨v, w', U', L', hr, hs', hk⟩ := h a w hf hs
  rw [hr]
  show wpList P ops Q rest (a.put o.dst v) w'
  rw [hd]
  exact hk _ _ (hf.put hn v) hs'
theorem ex_append {ox oy : Operand} {t : TypeId} {vx vy : Value} {a : Act} (hx : a.eval ox = vx) (hy : a.eval oy = vy) {w w' : World} (hr : (Builtin.append_ #[t, t] ty #[vx, vy]).run P w = .ok v w') :
    (execOp a.eval ⟨dd, .call ⟨.builtin .append, #[ox, oy], #[t, t]⟩, ty, pos, af, g⟩).run P w = .ok (.value v) w' := by
  simp [execOp, resolve, invoke, builtin, hx, hy, hr]
theorem made_one (z : Value) (n : Nat) : madeCells #[z] n = (List.replicate n z).toArray := by
  apply Array.ext'
  simp [madeCells, List.map_const', Nat.mod_one]
/-- make of n cells of one cell each -/
theorem al_makeInts {t e bytes n : Nat} {z : Value} {x : Int} {ol oc : Operand} (hl : E l ol = some (.int .i64 x)) (hc : E l oc = some (.int .i64 x)) (hx : x = (n : Int)) (hu : P.underlying t = some (.slice e)) (hinfo : (P.info? e).map (fun i => (i.zero, i.size, i.bytes)) = some (some z, 1, bytes)) (hz1 : z.cells = #[z]) (hm : n ≤ 1000000) (hb : bytes ≤ 10000)
    (hn : Nat.blt d e0.n = true) (hw : want ops l g = some true)
    (k : ∀ b, AL P ops Q e0 U ((d, .slice (some ⟨b, 0, none⟩) n n) :: l) ((b, .cells (List.replicate n z)) :: L) rest) :
    AL P ops Q e0 U l L (⟨some d, .makeSlice t ol oc, ty, pos, af, g⟩ :: rest) :=
  al_run2 (K := True) hw rfl hn (fun a w hf hs => by
    subst hx
    have hnb : bytes * n ≤ 10000 * 1000000 := Nat.mul_le_mul hb hm
    have hr := run_make_row' (P := P) t e z bytes hu hinfo hz1 .i64 .i64 n (by omega) (by omega) w
    rw [made_one] at hr
    exact ⟨_, _, U, _, by simp [execOp, hf.ev hl, hf.ev hc, hr], hs.alloc _ e, k _⟩)
end

end Go.Proofs.YtkhahbnagbjbiaaGreat
end
section
/- Abstract walking: maps. -/
namespace Go.Proofs.YtkhahbnagbjbiaaGreat
set_option linter.unusedVariables false
set_option linter.unusedSimpArgs false
set_option autoImplicit false
open Go.RowKit

section
variable {P : Program} {e0 : Cfg} {U : Snaps} {l : Slots} {L : Boxes} {ops : Array Oper} {Q : Exit → Act → World → Prop} {rest : List Oper} {d : Nat} {v : Value}
variable {ty : TypeId} {pos : String} {af : Array Edge} {g : Option (Nat × Bool)} {dd : Option Nat}

end

end Go.Proofs.YtkhahbnagbjbiaaGreat
end
section
/- Abstract walking: comparisons with nil, of structs. -/
namespace Go.Proofs.YtkhahbnagbjbiaaGreat
set_option linter.unusedVariables false
set_option linter.unusedSimpArgs false
set_option autoImplicit false
open Go.RowKit
section
variable {P : Program} {e0 : Cfg} {U : Snaps} {l : Slots} {L : Boxes} {ops : Array Oper} {Q : Exit → Act → World → Prop} {rest : List Oper} {d : Nat} {v : Value}
variable {ty : TypeId} {pos : String} {af : Array Edge} {g : Option (Nat × Bool)} {dd : Option Nat}
theorem q_bin {bo : BinOp} {xt yt : TypeId} {ox oy : Operand} {x y : Value} (hx : E l ox = some x) (hy : E l oy = some y) (hg : ∀ w, (eqGuard bo xt ox oy x y).run P w = .ok () w) (hr : ∀ w, (binOp bo xt x y).run P w = .ok v w) : Q1 P e0 U l L ⟨dd, .binOp bo xt ox oy yt, ty, pos, af, g⟩ v := by
  intro a w hf hs
  simp [execOp, hf.ev hx, hf.ev hy, hg, hr]
end

end Go.Proofs.YtkhahbnagbjbiaaGreat
end
