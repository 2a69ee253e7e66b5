import Derived.Test.YtjjajleiladbhaaGreatDoorLAC
import Derived.Laws.AppendOwn
import Derived.Deep.OwnRows
import Derived.Recover
import Derived.Test.YtjjajleiladbhaaGreatDoorRows
import Derived.WalkKit
import Derived.WalkSpells
import Derived.WalkLawsBesides
import Derived.Lib.Hide
import Derived.Deep.RegionHeld3
import Derived.Deep.DeepCutAuto
import Derived.Deep.QuietTactic
import Derived.BigQuiet
import Derived.IntWalk
section
/- Abstract walking: append, make, deferred calls. -/
namespace Go.Proofs.YtjjajleiladbhaaGreatDoor
set_option linter.unusedVariables false
set_option linter.unusedSimpArgs false
set_option autoImplicit false
open Go.RowKit

section
variable {P : Program} {e0 : Cfg} {U : Snaps} {l : Slots} {L : Boxes} {ops : Array Oper} {Q : Exit → Act → World → Prop} {rest : List Oper} {d : Nat} {v : Value}
variable {ty : TypeId} {pos : String} {af : Array Edge} {g : Option (Nat × Bool)} {dd : Option Nat}

theorem info_split {e z b : Nat} {zv : Value} (h : (P.info? e).map (fun i => (i.zero, i.size, i.bytes)) = some (some zv, z, b)) : ∃ i, P.info? e = some i ∧ i.zero = some zv ∧ i.size = z ∧ i.bytes = b := by
  cases hi : P.info? e with
  | none => rw [hi] at h; cases h
  | some i =>
    rw [hi] at h
    simp only [Option.map_some, Option.some.injEq, Prod.mk.injEq] at h
    exact ⟨i, rfl, h.1, h.2.1, h.2.2⟩
theorem below_drew_alloc (w : World) (o : Obj) : Below w.heap.size w (w.drew.alloc o) := ((Below.refl _ _).drew).alloc (Nat.le_refl _) o
theorem grownCap_le63 (w : World) (need old : Nat) (e : TypeId) (h : need ≤ 9223372036854775807) : grownCap w need old e ≤ 9223372036854775807 := by
  show need + w.tape w.drawn (.appendCap need old e) % (2 ^ 63 - need) ≤ _
  have : w.tape w.drawn (.appendCap need old e) % (2 ^ 63 - need) < 2 ^ 63 - need := Nat.mod_lt _ (by omega)
  omega
theorem run_appendNil {t e z bytes m c : Nat} {zv : Value} {A : Addr} {vs : List Value} {w : World} (ty : TypeId) (hu : P.underlying t = some (.slice e)) (hinfo : (P.info? e).map (fun i => (i.zero, i.size, i.bytes)) = some (some zv, z, bytes)) (hzv : zv.cells.size = z)
    (hs : Sta e0 U L w) (hl : vs.length = m * z) (hvs : ∀ j u, vs[j]? = some u → w.cell? (A.add j) = some u) (h0 : 0 < m) (hm : m ≤ 1000000) (hb : bytes ≤ 10000) :
    ∃ b' cap' sp' w', (Builtin.append_ #[t, t] ty #[.slice none 0 0, .slice (some A) m c]).run P w = .ok (.slice (some ⟨b', 0, none⟩) m cap') w' ∧ m ≤ cap' ∧ cap' ≤ 9223372036854775807 ∧ sp'.length = (cap' - m) * z ∧ Sta e0 U ((b', .cells (vs ++ sp')) :: L) w' := by
  obtain ⟨i, hi, hz, rfl, rfl⟩ := info_split hinfo
  have hmb : m * i.bytes ≤ 1000000 * 10000 := Nat.mul_le_mul hm hb
  have hr := run_append_nil (P := P) w t ty e i zv hu hi hz A m c vs hl hvs h0 (by omega) (by omega)
  have hcap := grownCap_ge w m 0 e
  refine ⟨w.heap.size, grownCap w m 0 e, (Builtin.zeroCells zv.cells (grownCap w m 0 e - m)).toList, _, hr, hcap, grownCap_le63 w m 0 e (by omega), by simp [size_zeroCells, hzv], ?_⟩
  have hA := hs.drew.alloc (vs ++ (Builtin.zeroCells zv.cells (grownCap w m 0 e - m)).toList) e
  have e1 : (vs ++ (Builtin.zeroCells zv.cells (grownCap w m 0 e - m)).toList).toArray = vs.toArray ++ Builtin.zeroCells zv.cells (grownCap w m 0 e - m) := Array.ext' (by simp)
  rw [e1] at hA
  exact hA
theorem run_appendBox {t e z bytes m c nn cap i b : Nat} {zv : Value} {A : Addr} {vs xs sp : List Value} {w : World} (ty : TypeId) (hu : P.underlying t = some (.slice e)) (hinfo : (P.info? e).map (fun i => (i.zero, i.size, i.bytes)) = some (some zv, z, bytes)) (hzv : zv.cells.size = z)
    (hs : Sta e0 U L w) (hi : L[i]? = some (b, .cells (xs ++ sp))) (hx : xs.length = nn * z) (hsp : sp.length = (cap - nn) * z) (hcap : nn ≤ cap) (hcm : cap ≤ 9223372036854775807)
    (hl : vs.length = m * z) (hvs : ∀ j u, vs[j]? = some u → w.cell? (A.add j) = some u) (h1 : ∀ u ∈ vs, u.oneCell' = true) (hm : nn + m ≤ 1000000) (hb : bytes ≤ 10000) :
    ∃ b' cap' sp' w', (Builtin.append_ #[t, t] ty #[.slice (some ⟨b, 0, none⟩) nn cap, .slice (some A) m c]).run P w = .ok (.slice (some ⟨b', 0, none⟩) (nn + m) cap') w' ∧ nn + m ≤ cap' ∧ cap' ≤ 9223372036854775807 ∧ sp'.length = (cap' - (nn + m)) * z ∧ Sta e0 U (L.set i (b', .cells ((xs ++ vs) ++ sp'))) w' := by
  obtain ⟨ti, hti, hz, rfl, rfl⟩ := info_split hinfo
  by_cases hroom : nn + m ≤ cap
  · have hfit : nn * ti.size + vs.length ≤ (xs ++ sp).length := by
      rw [List.length_append, hx, hsp, hl, ← Nat.add_mul]
      have : (nn + m) * ti.size ≤ cap * ti.size := Nat.mul_le_mul_right _ hroom
      have e1 : nn * ti.size + (cap - nn) * ti.size = cap * ti.size := by rw [← Nat.add_mul]; congr 1; omega
      omega
    obtain ⟨w', hr, hst⟩ := run_storeCells P e0 U i b vs L (xs ++ sp) (nn * ti.size) 0 w hs hi (by simpa using hfit) h1
    refine ⟨b, cap, sp.drop vs.length, w', ?_, hroom, hcm, ?_, ?_⟩
    · have hf := run_firstCells_some (P := P) w ti.size m A m c vs hl hvs
      simp [Builtin.append_, run_underlying hu, sizeOf, typeInfo, hti, Builtin.lenOf, hroom, hf, addr_add, hr]
    · rw [List.length_drop, hsp, hl, ← Nat.sub_mul]; congr 1; omega
    · simp only [Nat.add_zero] at hst
      have e1 : (xs ++ sp).take (nn * ti.size) ++ vs ++ (xs ++ sp).drop (nn * ti.size + vs.length) = (xs ++ vs) ++ sp.drop vs.length := by
        rw [← hx, List.take_left, List.drop_append, List.drop_eq_nil_of_le (by omega)]
        simp
      rw [e1] at hst
      exact hst
  · have holds : ∀ j u, xs[j]? = some u → w.cell? ((⟨b, 0, none⟩ : Addr).add j) = some u := fun j u hj => by
      rw [addr_add, Nat.zero_add]
      refine hs.cell hi ?_
      have hlt : j < xs.length := by
        rcases Nat.lt_or_ge j xs.length with h | h
        · exact h
        · rw [List.getElem?_eq_none h] at hj; cases hj
      rw [List.getElem?_append_left hlt]; exact hj
    have hmb : (nn + m) * ti.bytes ≤ 1000000 * 10000 := Nat.mul_le_mul hm hb
    have hr := run_append_grow (P := P) w t ty e ti zv hu hti hz ⟨b, 0, none⟩ nn cap xs hx holds A m c vs hl hvs (by omega) (by omega) (growslice_fits (by omega) (by omega))
    have hcap' := grownCap_ge w (nn + m) cap e
    refine ⟨w.heap.size, grownCap w (nn + m) cap e, (Builtin.zeroCells zv.cells (grownCap w (nn + m) cap e - (nn + m))).toList, _, hr, hcap', grownCap_le63 w (nn + m) cap e (by omega), by simp [size_zeroCells, hzv], ?_⟩
    refine hs.renew hi (below_drew_alloc w _) (Nat.le_refl _) ?_
    have hA := BoxAt.new w.drew ((xs ++ vs) ++ (Builtin.zeroCells zv.cells (grownCap w (nn + m) cap e - (nn + m))).toList) e
    have e1 : ((xs ++ vs) ++ (Builtin.zeroCells zv.cells (grownCap w (nn + m) cap e - (nn + m))).toList).toArray = xs.toArray ++ vs.toArray ++ Builtin.zeroCells zv.cells (grownCap w (nn + m) cap e - (nn + m)) := Array.ext' (by simp)
    rw [e1] at hA
    exact hA

theorem al_run2 {o : Oper} {K : Prop} (hg : want ops l o.guard = some true) (hd : o.dst = some d) (hn : Nat.blt d e0.n = true)
    (h : ∀ a w, Fr e0 l a → Sta e0 U L w → ∃ v w' U' L', (execOp a.eval o).run P w = .ok (.value v) w' ∧ Sta e0 U' L' w' ∧ AL P ops Q e0 U' ((d, v) :: l) L' rest) : AL P ops Q e0 U l L (o :: rest) := by
  intro a w hf hs
  unfold wpList
  rw [if_pos (want_ok hf hg)]
  refine Or.inl ?_
  unfold Oper.wp
  obtain ⟨v, w', U', L', hr, hs', hk⟩ := h a w hf hs
  rw [hr]
  show wpList P ops Q rest (a.put o.dst v) w'
  rw [hd]
  exact hk _ _ (hf.put hn v) hs'
theorem ex_append {ox oy : Operand} {t : TypeId} {vx vy : Value} {a : Act} (hx : a.eval ox = vx) (hy : a.eval oy = vy) {w w' : World} (hr : (Builtin.append_ #[t, t] ty #[vx, vy]).run P w = .ok v w') :
    (execOp a.eval ⟨dd, .call ⟨.builtin .append, #[ox, oy], #[t, t]⟩, ty, pos, af, g⟩).run P w = .ok (.value v) w' := by
  simp [execOp, resolve, invoke, builtin, hx, hy, hr]
/-- append to nothing, of what lies in an own box -/
theorem al_appendNil {t e z bytes m c j bs : Nat} {zv : Value} {vs : List Value} {ox oy : Operand} (hx : E l ox = some (.slice none 0 0)) (hy : E l oy = some (.slice (some ⟨bs, 0, none⟩) m c)) (hj : L[j]? = some (bs, .cells vs))
    (hu : P.underlying t = some (.slice e)) (hinfo : (P.info? e).map (fun i => (i.zero, i.size, i.bytes)) = some (some zv, z, bytes)) (hzv : zv.cells.size = z) (hl : vs.length = m * z) (h0 : 0 < m) (hm : m ≤ 1000000) (hb : bytes ≤ 10000)
    (hn : Nat.blt d e0.n = true) (hw : want ops l g = some true)
    (k : ∀ b' cap' sp', m ≤ cap' → cap' ≤ 9223372036854775807 → sp'.length = (cap' - m) * z → AL P ops Q e0 U ((d, .slice (some ⟨b', 0, none⟩) m cap') :: l) ((b', .cells (vs ++ sp')) :: L) rest) :
    AL P ops Q e0 U l L (⟨some d, .call ⟨.builtin .append, #[ox, oy], #[t, t]⟩, ty, pos, af, g⟩ :: rest) :=
  al_run2 (K := True) hw rfl hn (fun a w hf hs => by
    obtain ⟨b', cap', sp', w', hr, hc, hc2, hsp, hst⟩ := run_appendNil (A := ⟨bs, 0, none⟩) (c := c) ty hu hinfo hzv hs hl (fun j u hju => by rw [addr_add, Nat.zero_add]; exact hs.cell hj hju) h0 hm hb
    exact ⟨_, w', U, _, ex_append (hf.ev hx) (hf.ev hy) hr, hst, k b' cap' sp' hc hc2 hsp⟩)
theorem made_one (z : Value) (n : Nat) : madeCells #[z] n = (List.replicate n z).toArray := by
  apply Array.ext'
  simp [madeCells, List.map_const', Nat.mod_one]
/-- make of n cells of one cell each -/
theorem al_makeInts {t e bytes n : Nat} {z : Value} {x : Int} {ol oc : Operand} (hl : E l ol = some (.int .i64 x)) (hc : E l oc = some (.int .i64 x)) (hx : x = (n : Int)) (hu : P.underlying t = some (.slice e)) (hinfo : (P.info? e).map (fun i => (i.zero, i.size, i.bytes)) = some (some z, 1, bytes)) (hz1 : z.cells = #[z]) (hm : n ≤ 1000000) (hb : bytes ≤ 10000)
    (hn : Nat.blt d e0.n = true) (hw : want ops l g = some true)
    (k : ∀ b, AL P ops Q e0 U ((d, .slice (some ⟨b, 0, none⟩) n n) :: l) ((b, .cells (List.replicate n z)) :: L) rest) :
    AL P ops Q e0 U l L (⟨some d, .makeSlice t ol oc, ty, pos, af, g⟩ :: rest) :=
  al_run2 (K := True) hw rfl hn (fun a w hf hs => by
    subst hx
    have hnb : bytes * n ≤ 10000 * 1000000 := Nat.mul_le_mul hb hm
    have hr := run_make_row' (P := P) t e z bytes hu hinfo hz1 .i64 .i64 n (by omega) (by omega) w
    rw [made_one] at hr
    exact ⟨_, _, U, _, by simp [execOp, hf.ev hl, hf.ev hc, hr], hs.alloc _ e, k _⟩)
end
end Go.Proofs.YtjjajleiladbhaaGreatDoor
end
section
/- Abstract walking: maps. -/
namespace Go.Proofs.YtjjajleiladbhaaGreatDoor
set_option linter.unusedVariables false
set_option linter.unusedSimpArgs false
set_option autoImplicit false
open Go.RowKit

section
variable {P : Program} {e0 : Cfg} {U : Snaps} {l : Slots} {L : Boxes} {ops : Array Oper} {Q : Exit → Act → World → Prop} {rest : List Oper} {d : Nat} {v : Value}
variable {ty : TypeId} {pos : String} {af : Array Edge} {g : Option (Nat × Bool)} {dd : Option Nat}

theorem BoxAt.newMap (w : World) (es : List MapEntry) (k : Nat) : BoxAt (w.alloc (.map es.toArray k)) w.heap.size (.map es k) :=
  ⟨by simp, fun ds hd => (by cases hd), fun fs m hc => (by cases hc; exact heap_alloc_new w _)⟩
theorem al_makeMap {t : TypeId} (hn : Nat.blt d e0.n = true) (hw : want ops l g = some true) (k : ∀ r, AL P ops Q e0 U ((d, .map (some r)) :: l) ((r, .map [] 0) :: L) rest) :
    AL P ops Q e0 U l L (⟨some d, .makeMap t none, ty, pos, af, g⟩ :: rest) :=
  al_run2 (K := True) hw rfl hn (fun a w hf hs => ⟨_, w.alloc (.map [].toArray 0), U, _, by simp [execOp, Instr.makeMap], hs.adopt ((Below.refl _ _).alloc (Nat.le_refl _) _) (Nat.le_refl _) (BoxAt.newMap w [] 0), k _⟩)
/-- keys that are plain -/
def plainKey : Value → Bool
  | .string _ | .int _ _ | .bool _ => true
  | _ => false
def plainKind : TypeDesc → Bool
  | .string | .int _ | .bool => true
  | _ => false
theorem run_checkKey {kt n : Nat} {kd : TypeDesc} {b : Bool} {kv : Value} (hk : P.underlying kt = some kd) (hp : plainKey kv = true) (hd : plainKind kd = true) (w : World) : (Instr.checkKey b (n + 1) kt kv).run P w = .ok () w := by
  cases kv <;> simp [plainKey] at hp <;> cases kd <;> simp [plainKind] at hd <;> simp [Instr.checkKey, run_underlying hk]
theorem al_insert {t kt vt r i k : Nat} {kd : TypeDesc} {es : List MapEntry} {kv vv : Value} {om ok ov : Operand} (hm : E l om = some (.map (some r))) (hk : E l ok = some kv) (hv : E l ov = some vv) (hi : L[i]? = some (r, .map es k))
    (hu : P.underlying t = some (.map kt vt)) (hku : P.underlying kt = some kd) (hp : plainKey kv = true) (hd : plainKind kd = true) (hf : Instr.findNow kd kv es 0 = some none)
    {L' : Boxes} (hL : SetAt i (r, .map (es ++ [⟨kv, vv, k⟩]) (k + 1)) L L') (hw : want ops l g = some true) (kk : AL P ops Q e0 U l L' rest) :
    AL P ops Q e0 U l L (⟨none, .insert t om ok ov, ty, pos, af, g⟩ :: rest) := by
  intro a w hfr hs
  unfold wpList
  rw [if_pos (want_ok hfr hw)]
  refine Or.inl ?_
  unfold Oper.wp
  have hmap := hs.map hi
  have hlt : r < w.heap.size := (hs.box i r _ hi).2.lt
  have hck := run_checkKey (P := P) (n := 9999) (b := false) hku hp hd w
  have hrun : (execOp a.eval ⟨none, .insert t om ok ov, ty, pos, af, g⟩).run P w = .ok .skip { w with heap := w.heap.setIfInBounds r (.map (es ++ [({ key := kv, val := vv, born := k } : MapEntry)]).toArray (k + 1)) } := by
    simp [execOp, Instr.mapUpdate, hfr.ev hm, hfr.ev hk, hfr.ev hv, run_underlying hu, getObj, setObj, Sem.run, hmap, hck, Instr.findKey, run_underlying hku, hf]
  rw [hrun]
  show wpList P ops Q rest (a.put none undef) _
  rw [hL.eq] at kk
  refine kk a _ hfr (hs.change hi ⟨rfl, rfl, rfl, by simp, fun m _ hm => ?_⟩ ⟨by simpa using hlt, fun ds hd => (by cases hd), fun fs m hc => ?_⟩)
  · have : r ≠ m := fun e => hm (by simp [e])
    simp [Array.getElem?_setIfInBounds, this]
  · cases hc
    simp [Array.getElem?_setIfInBounds, hlt]
theorem q_lookup2 {t kt vt r i k j : Nat} {kd : TypeDesc} {es : List MapEntry} {kv : Value} {om ok : Operand} (hm : E l om = some (.map (some r))) (hk : E l ok = some kv) (hi : L[i]? = some (r, .map es k))
    (hu : P.underlying t = some (.map kt vt)) (hku : P.underlying kt = some kd) (hp : plainKey kv = true) (hd : plainKind kd = true) (hf : Instr.findNow kd kv es 0 = some (some (j, v))) :
    Q1 P e0 U l L ⟨dd, .lookup t om ok true, ty, pos, af, g⟩ (.tuple #[v, .bool true]) := by
  intro a w hfr hs
  have hmap := hs.map hi
  have hck := fun b => run_checkKey (P := P) (n := 9999) (b := b) hku hp hd w
  simp [execOp, Instr.lookup, hfr.ev hm, hfr.ev hk, run_underlying hu, getObj, Sem.run, hmap, hck, Instr.findKey, run_underlying hku, hf]
end
end Go.Proofs.YtjjajleiladbhaaGreatDoor
end
section
/- Abstract walking: comparisons with nil, of structs. -/
namespace Go.Proofs.YtjjajleiladbhaaGreatDoor
set_option linter.unusedVariables false
set_option linter.unusedSimpArgs false
set_option autoImplicit false
open Go.RowKit
section
variable {P : Program} {e0 : Cfg} {U : Snaps} {l : Slots} {L : Boxes} {ops : Array Oper} {Q : Exit → Act → World → Prop} {rest : List Oper} {d : Nat} {v : Value}
variable {ty : TypeId} {pos : String} {af : Array Edge} {g : Option (Nat × Bool)} {dd : Option Nat}
theorem run_equalIn_nilI (d : Nat) {t : TypeId} {ms : Array (String × TypeId)} (h : P.underlying t = some (.interface ms)) (w : World) : (Op.equalIn (d + 1) t .nilIface .nilIface).run P w = .ok true w := by simp [Op.equalIn, run_underlying h]
theorem run_equal_nilI {t : TypeId} {ms : Array (String × TypeId)} (h : P.underlying t = some (.interface ms)) (w : World) : (Op.equal t .nilIface .nilIface).run P w = .ok true w := run_equalIn_nilI 9999 h w
theorem bin_eql_nil (t : TypeId) : binOp .eql t .nilIface .nilIface = (do pure (.bool (← Op.equal t .nilIface .nilIface)) : Sem Value) := rfl
theorem q_bin {bo : BinOp} {xt yt : TypeId} {ox oy : Operand} {x y : Value} (hx : E l ox = some x) (hy : E l oy = some y) (hg : ∀ w, (eqGuard bo xt ox oy x y).run P w = .ok () w) (hr : ∀ w, (binOp bo xt x y).run P w = .ok v w) : Q1 P e0 U l L ⟨dd, .binOp bo xt ox oy yt, ty, pos, af, g⟩ v := by
  intro a w hf hs
  simp [execOp, hf.ev hx, hf.ev hy, hg, hr]
theorem q_eqlNilI {xt yt : TypeId} {ms : Array (String × TypeId)} {ox : Operand} (hx : E l ox = some .nilIface) (hu : P.underlying xt = some (.interface ms)) : Q1 P e0 U l L ⟨dd, .binOp .eql xt ox (.const .nilIface) yt, ty, pos, af, g⟩ (.bool true) :=
  q_bin hx rfl (fun w => by simp [eqGuard]) (fun w => by rw [bin_eql_nil]; simp [run_equal_nilI hu])
end
end Go.Proofs.YtjjajleiladbhaaGreatDoor
end
section
/- Abstract walking: deferred calls that recover nothing. -/
namespace Go.Proofs.YtjjajleiladbhaaGreatDoor
set_option linter.unusedVariables false
set_option linter.unusedSimpArgs false
set_option autoImplicit false
open Go.RowKit

section
variable {P : Program} {e0 : Cfg} {U : Snaps} {l : Slots} {L : Boxes} {ops : Array Oper} {Q : Exit → Act → World → Prop} {rest : List Oper} {d : Nat} {v : Value}
variable {ty : TypeId} {pos : String} {af : Array Edge} {g : Option (Nat × Bool)} {dd : Option Nat}

theorem Fr.defer {n : Nat} {D : List Deferred} {w0 : World} {bs : List Nat} {a : Act} (h : Fr ⟨n, D, w0, bs⟩ l a) (x : Deferred) (u : Value) : Fr ⟨n, x :: D, w0, bs⟩ l ({ a with defers := x :: a.defers }.put none u) :=
  ⟨h.size, by show x :: a.defers = x :: D; rw [h.defers], h.slot⟩
theorem al_defer {n : Nat} {D : List Deferred} {w0 : World} {bs : List Nat} {fv : Fn} {of : Operand} {fi ca : List Value} {xs : List Operand} {vs : List Value} {ats : Array TypeId} (hof : E l of = some (.func fv fi.toArray ca.toArray)) (hxs : Es l xs vs) (hw : want ops l g = some true)
    (k : AL P ops Q ⟨n, ⟨.fn fv ca.toArray, (fi ++ vs).toArray⟩ :: D, w0, bs⟩ U l L rest) :
    AL P ops Q ⟨n, D, w0, bs⟩ U l L (⟨none, .defer ⟨.value of, xs.toArray, ats⟩, ty, pos, af, g⟩ :: rest) := by
  intro a w hfr hs
  unfold wpList
  rw [if_pos (want_ok hfr hw)]
  refine Or.inl ?_
  unfold Oper.wp
  have hargs : xs.toArray.map a.eval = vs.toArray := Array.ext' (by simp [Es.map hfr hxs])
  have hrun : (execOp a.eval ⟨none, .defer ⟨.value of, xs.toArray, ats⟩, ty, pos, af, g⟩).run P w = .ok (.defer ⟨.fn fv ca.toArray, (fi ++ vs).toArray⟩) w := by
    simp only [execOp, resolve, hargs, hfr.ev hof, Deferred.ofValue]
    simp
  rw [hrun, Oper.upon_defer]
  exact k _ w (hfr.defer _ _) hs.env
/-- a deferred call behind an ordinary return: what it recovers is nil -/
theorem callsD_ax {R : Ending → World → Prop} {f : FuncId} {fn : Func} {o : Oper} {id : Nat} {c2 : Code} {vs : List Value} {w : World} (hf : P.funcs[f]? = some fn) (hb : fn.body = some (.seq (.region id #[o] false) c2))
    (ho : ∀ ρ w, (execOp ρ o).run P w = .ok .recover w) (hg : o.guard = none) (hd : o.dst = some d) (hn : Nat.blt d fn.ntmps = true) (hlen : Nat.ble vs.length fn.ntmps = true)
    (k : AC P ⟨fn.ntmps, [], w, []⟩ [] ((d, .nilIface) :: num 0 vs) [] c2 (bodyPost P fn R)) : CallsD P f vs.toArray .returning w (fun e u' w' => u' = .returning ∧ R e w') := by
  refine callsD_of_wpS hf hb (fun c₀ cs hm => wpS_seq (wpS_region ?_))
  have hr : recoverD (c₀ :: cs) = none := by simp [recoverD, hm]
  show wpOpsS P #[o] _ [0] _ (c₀ :: cs) w
  have hw : Region.wanted o (yielded #[o] ({ tmps := vs.toArray ++ Array.replicate (fn.ntmps - vs.toArray.size) undef, defers := [] } : Act).tmps) = true := by simp [Region.wanted, hg]
  simp only [wpOpsS, ho, hr, hw, if_true, List.getElem?_toArray, List.getElem?_cons_zero]
  show Code.wpS P c2 _ _ _ _
  refine wpS_of_wp ?_
  rw [hd]
  refine Code.wp_mono ?_ (k _ w ((Fr.start fn.ntmps w [] vs hlen).put hn _) (Sta.start _ _ _))
  intro e a w' h
  cases e with
  | normal => exact ⟨h.1, .returning, by rw [← hm], h.2.imp (fun v hv => ⟨hv.1, rfl, hv.2⟩)⟩
  | ret => exact ⟨h.1, .returning, by rw [← hm], h.2.imp (fun v hv => ⟨hv.1, rfl, hv.2⟩)⟩
  | panic ch => exact ⟨h.1, .returning, by rw [← hm], rfl, h.2⟩
  | exit id => exact h
  | goto l => exact h
  | outgrown => exact ⟨.returning, rfl, h⟩
theorem calls_axD {f : FuncId} {fn : Func} {c : Code} {vs : List Value} {w : World} {R : Ending → World → Prop} (hf : P.funcs[f]? = some fn) (hb : fn.body = some c) (hlen : Nat.ble vs.length fn.ntmps = true)
    (k : AC P ⟨fn.ntmps, [], w, []⟩ [] (num 0 vs) [] c (bodyPostD P fn R)) : Calls P f vs.toArray w R :=
  calls_of_wp_defers hf hb (k _ w (Fr.start fn.ntmps w [] vs hlen) (Sta.start _ _ _))
/-- a return with one deferred call -/
theorem retD {n : Nat} {w0 : World} {bs : List Nat} {fn : Func} {R : Ending → World → Prop} {rs : List ResultVar} {vs : List Value} {f : FuncId} {ca dargs : Array Value} (hr : fn.results = rs.toArray) (h : RT P l L rs vs) (hv : Fin1 vs v)
    (hi : ∀ w, (invoke (.fn (.func f) ca) dargs).run P w = .ok (.enter f (dargs ++ ca)) w) (hc : ∀ w, CallsD P f (dargs ++ ca) .returning w (fun e u' w' => u' = .returning ∧ ∃ x, e = .returned x ∧ Below w.heap.size w w'))
    (k : ∀ w, Sta ⟨n, [⟨.fn (.func f) ca, dargs⟩], w0, bs⟩ U L w → R (.returned v) w) : AQ ⟨n, [⟨.fn (.func f) ca, dargs⟩], w0, bs⟩ U l L (bodyPostD P fn R .ret) := by
  intro a w hf hs
  show Leaves P fn a.tmps R a.defers .returning w
  rw [hf.defers]
  refine leaves_cons (by simp) (hi w) ((hc w).mono ?_)
  rintro e u' w' ⟨rfl, x, rfl, hb⟩
  have hs' := hs.ext hb
  exact ⟨v, by rw [← hv.eq]; exact results_eq fn a.tmps rs hr vs w' (h.run hf hs'), k w' hs'⟩
theorem q_assertNil {xt t : TypeId} {ox : Operand} {z : Value} (hx : E l ox = some .nilIface) (hz : ∀ w, (zeroValue t).run P w = .ok z w) {fs : Array Field} (hu : ∀ w, (underlying t).run P w = .ok (.struct fs) w) : Q1 P e0 U l L ⟨dd, .typeAssert ox xt t true, ty, pos, af, g⟩ (.tuple [z, .bool false].toArray) := by
  intro a w hf hs
  simp [execOp, hf.ev hx, Instr.typeAssert, hu, hz]
end
end Go.Proofs.YtjjajleiladbhaaGreatDoor
end
section
/- Package span and its specification: contracts of the small functions (Valid, Contains, Inside and so on), over this seat's translation. -/
namespace Go.Proofs.YtjjajleiladbhaaGreatDoor
set_option linter.unusedVariables false
set_option linter.unusedSimpArgs false
open Go.RowKit

/-- What a call that only makes memory leaves. -/
def Ret (v : Value) (w : World) (e : Ending) (w' : World) : Prop := e = .returned v ∧ Below w.heap.size w w'

theorem bcell {W w1 : World} (hb : Below W.heap.size W w1) : (∀ b o, b < W.heap.size → w1.cell? ⟨b, o, none⟩ = W.cell? ⟨b, o, none⟩) ∧ (∀ b o, b < W.heap.size → w1.frozen? ⟨b, o, none⟩ = W.frozen? ⟨b, o, none⟩) :=
  ⟨fun b o h => hb.cell (p := ⟨b, o, none⟩) h, fun b o h => hb.frozen (p := ⟨b, o, none⟩) h⟩

/-- From W to w': every block of W but block x is as it was; block x stands, with its marks. -/
structure Reg (x : Nat) (W w' : World) : Prop where
  os : w'.os = W.os
  tape : w'.tape = W.tape
  output : w'.output = W.output
  size : W.heap.size ≤ w'.heap.size
  block : ∀ k, k < W.heap.size → k ≠ x → w'.heap[k]? = W.heap[k]?
  some : ∀ b o, b < W.heap.size → (w'.cell? ⟨b, o, none⟩).isSome = (W.cell? ⟨b, o, none⟩).isSome
  frozen : ∀ b o, b < W.heap.size → w'.frozen? ⟨b, o, none⟩ = W.frozen? ⟨b, o, none⟩
theorem Reg.refl (x : Nat) (W : World) : Reg x W W := ⟨rfl, rfl, rfl, Nat.le_refl _, fun _ _ _ => rfl, fun _ _ _ => rfl, fun _ _ _ => rfl⟩
theorem Reg.cells {x : Nat} {W w1 : World} (h : Reg x W w1) : ∀ b o, b < W.heap.size → b ≠ x → w1.cell? ⟨b, o, none⟩ = W.cell? ⟨b, o, none⟩ := fun b o hb hx => World.cell?_of_block (w := W) (a := ⟨b, o, none⟩) (h.block b hb hx)
theorem Reg.drew {x : Nat} {W w1 : World} (h : Reg x W w1) : Reg x W w1.drew :=
  ⟨h.os, h.tape, h.output, h.size, h.block, fun b o hb => by rw [World.cell?_drew]; exact h.some b o hb, fun b o hb => by rw [World.frozen?_drew]; exact h.frozen b o hb⟩
theorem Reg.call {x : Nat} {W w1 w2 : World} (h : Reg x W w1) (hb : Below w1.heap.size w1 w2) : Reg x W w2 :=
  ⟨hb.os.trans h.os, hb.tape.trans h.tape, hb.output.trans h.output, Nat.le_trans h.size hb.size, fun k hk hx => (hb.block k (Nat.lt_of_lt_of_le hk h.size)).trans (h.block k hk hx),
    fun b o hw => by rw [hb.cell (p := ⟨b, o, none⟩) (Nat.lt_of_lt_of_le hw h.size)]; exact h.some b o hw, fun b o hw => by rw [hb.frozen (p := ⟨b, o, none⟩) (Nat.lt_of_lt_of_le hw h.size)]; exact h.frozen b o hw⟩
theorem Reg.alloc {x : Nat} {W w1 : World} (h : Reg x W w1) (o : Obj) : Reg x W (w1.alloc o) :=
  h.call ((Below.refl _ _).alloc (Nat.le_refl _) o)
theorem isSome_setCell (w : World) (a q : Addr) (v : Value) : ((w.setCell a v).cell? q).isSome = (w.cell? q).isSome := by
  by_cases h : a = q
  · subst h
    cases hc : w.cell? a with
    | some u => rw [World.cell?_setCell_same _ _ _ hc]; rfl
    | none =>
      cases hd : (w.setCell a v).cell? a with
      | none => rfl
      | some u =>
        exfalso
        unfold World.cell? at hc
        simp only [World.setCell, World.cell?, Array.getElem?_modify, ↓reduceIte] at hd
        cases hh : w.heap[a.block]? with
        | none => simp [hh] at hd
        | some o =>
          cases o with
          | cells c t f =>
            simp only [hh, Option.map_some] at hd hc
            cases hs : a.spot.isSome with
            | true => simp [hs] at hd
            | false =>
              simp [hs] at hd hc
              have := Array.getElem?_eq_none hc
              rw [Array.getElem?_eq_none (by simpa using hc)] at hd
              simp at hd
          | _ => simp [hh] at hd
  · rw [World.cell?_setCell_other _ _ _ _ h]
theorem Reg.setCell {x : Nat} {W w1 : World} (h : Reg x W w1) {p : Addr} (hp : p.block = x ∨ W.heap.size ≤ p.block) (v : Value) : Reg x W (w1.setCell p v) :=
  ⟨h.os, h.tape, h.output, by rw [World.size_setCell]; exact h.size, fun k hk hx => (Below.heap_setCell _ _ _ _ (by omega)).trans (h.block k hk hx),
    fun b o hw => by rw [isSome_setCell]; exact h.some b o hw, fun b o hw => by rw [World.frozen?_setCell]; exact h.frozen b o hw⟩

theorem Reg.out {x : Nat} {w W w1 : World} (h : Reg x W w1) (h0 : Below w.heap.size w W) (hB : w.heap.size ≤ x) : Below w.heap.size w w1 :=
  ⟨h.os.trans h0.os, h.tape.trans h0.tape, h.output.trans h0.output, Nat.le_trans h0.size h.size, fun k hk => (h.block k (Nat.lt_of_lt_of_le hk h0.size) (by omega)).trans (h0.block k hk)⟩
theorem size_drew (w : World) : w.drew.heap.size = w.heap.size := rfl
theorem Below_drewN {B : Nat} {a w : World} (h : Below B a w) (n : Nat) : Below B a (w.drewN n) := ⟨h.os, h.tape, h.output, h.size, h.block⟩
theorem Reg.drewN {x : Nat} {W w1 : World} (h : Reg x W w1) (n : Nat) : Reg x W (w1.drewN n) :=
  ⟨h.os, h.tape, h.output, h.size, h.block, fun b o hb => h.some b o hb, fun b o hb => h.frozen b o hb⟩
theorem Reg.drewN2 (x : Nat) (W : World) (n m : Nat) : Reg x (W.drewN n) (W.drewN m) := ⟨rfl, rfl, rfl, Nat.le_refl _, fun _ _ _ => rfl, fun _ _ _ => rfl, fun _ _ _ => rfl⟩
theorem size_drewN (w : World) (n : Nat) : (w.drewN n).heap.size = w.heap.size := rfl
theorem size_alloc_lt (w : World) (o : Obj) : w.heap.size < (w.alloc o).heap.size := by simp
theorem size_alloc_drew_lt (w : World) (o : Obj) : w.heap.size < (w.alloc o).drew.heap.size := by rw [show (w.alloc o).drew.heap.size = (w.alloc o).heap.size from rfl]; simp

/-- What a cell holds, whatever it is. -/
def cur (w : World) (a : Addr) : Value := (w.cell? a).getD undef
theorem cur_iff (w : World) (a : Addr) : (w.cell? a = some (cur w a)) = ((w.cell? a).isSome = true) := by
  unfold cur
  cases w.cell? a <;> simp

end Go.Proofs.YtjjajleiladbhaaGreatDoor
end
section
/- A machine as data, and what the document asks of it (Name, Check): plain functions; and how its lists lie in memory. -/
namespace Go.Proofs.YtjjajleiladbhaaGreatDoor
set_option linter.unusedVariables false
set_option linter.unusedSimpArgs false
open Go.RowKit

structure CoilD where
  (name : ByteArray) (r z turns cur step heat cool : Int)
structure ShellD where
  (r z self loss : Int)
structure PointD where
  (r z : Int)
structure SensorD where
  (name : ByteArray) (kind r z error : Int)
structure FaultD where
  (at_ sensor kind n : Int)
structure SpanD where
  (lo hi : Int)
structure GridD where
  (r z nr nz step : Int)
structure MachD where
  (name : ByteArray) (coils : List CoilD) (shells : List ShellD) (limits : List PointD) (grid : GridD) (sensors : List SensorD)

def CoilD.cells (x : CoilD) : List Value := [.string x.name, .int .i64 x.r, .int .i64 x.z, .int .i64 x.turns, .int .i64 x.cur, .int .i64 x.step, .int .i64 x.heat, .int .i64 x.cool]
def ShellD.cells (x : ShellD) : List Value := [.int .i64 x.r, .int .i64 x.z, .int .i64 x.self, .int .i64 x.loss]
def PointD.cells (x : PointD) : List Value := [.int .i64 x.r, .int .i64 x.z]
def SensorD.cells (x : SensorD) : List Value := [.string x.name, .int .i64 x.kind, .int .i64 x.r, .int .i64 x.z, .int .i64 x.error]
def FaultD.cells (x : FaultD) : List Value := [.int .i64 x.at_, .int .i64 x.sensor, .int .i64 x.kind, .int .i64 x.n]
def SpanD.cells (x : SpanD) : List Value := [.int .i64 x.lo, .int .i64 x.hi]
def intCells (x : Int) : List Value := [.int .i64 x]
abbrev CoilD.v (x : CoilD) : Value := .agg #[.string x.name, .int .i64 x.r, .int .i64 x.z, .int .i64 x.turns, .int .i64 x.cur, .int .i64 x.step, .int .i64 x.heat, .int .i64 x.cool]
abbrev ShellD.v (x : ShellD) : Value := .agg #[.int .i64 x.r, .int .i64 x.z, .int .i64 x.self, .int .i64 x.loss]
abbrev PointD.v (x : PointD) : Value := .agg #[.int .i64 x.r, .int .i64 x.z]
abbrev SensorD.v (x : SensorD) : Value := .agg #[.string x.name, .int .i64 x.kind, .int .i64 x.r, .int .i64 x.z, .int .i64 x.error]
abbrev FaultD.v (x : FaultD) : Value := .agg #[.int .i64 x.at_, .int .i64 x.sensor, .int .i64 x.kind, .int .i64 x.n]
abbrev SpanD.v (x : SpanD) : Value := .agg #[.int .i64 x.lo, .int .i64 x.hi]
abbrev intV (x : Int) : Value := .int .i64 x
/-- A list whose items take n cells each lies at A (nil, where there is none). -/
def IsT {α : Type} (n : Nat) (enc : α → List Value) (w : World) (A : Option Addr) (len : Nat) (zs : List α) : Prop :=
  zs.length = len ∧ (0 < len → ∃ b o : Nat, A = some ⟨b, o, none⟩ ∧ b < w.heap.size ∧ ∀ (j : Nat) (x : α), zs[j]? = some x → ∀ (i : Nat) (v : Value), (enc x)[i]? = some v → w.cell? ⟨b, o + j * n + i, none⟩ = some v)
theorem IsT.below {α : Type} {n : Nat} {enc : α → List Value} {w w1 : World} {A : Option Addr} {len : Nat} {zs : List α} (h : IsT n enc w A len zs) (hb : Below w.heap.size w w1) : IsT n enc w1 A len zs :=
  ⟨h.1, fun h0 => by
    obtain ⟨b, o, e, h1, h2⟩ := h.2 h0
    exact ⟨b, o, e, Nat.lt_of_lt_of_le h1 hb.size, fun j x hx i v hv => (hb.cell (p := ⟨b, _, none⟩) h1).trans (h2 j x hx i v hv)⟩⟩
theorem IsT.take {α : Type} {n : Nat} {enc : α → List Value} {w : World} {A : Option Addr} {len : Nat} {zs : List α} (h : IsT n enc w A len zs) {k : Nat} (hk : k ≤ len) : IsT n enc w A k (zs.take k) :=
  ⟨by rw [List.length_take, h.1]; omega, fun h0 => by
    obtain ⟨b, o, e, h1, h2⟩ := h.2 (by omega)
    refine ⟨b, o, e, h1, fun j x hx i v hv => h2 j x ?_ i v hv⟩
    rw [List.getElem?_take] at hx
    split at hx
    · exact hx
    · cases hx⟩
theorem IsT.nil {α : Type} (n : Nat) (enc : α → List Value) (w : World) (A : Option Addr) : IsT n enc w A 0 ([] : List α) := ⟨rfl, fun h => absurd h (by omega)⟩

/-- Where the first item lies for which p holds, or -1. -/
def idxGo {α : Type} (p : α → Bool) : List α → Int → Int
  | [], _ => -1
  | x :: r, i => if p x = true then i else idxGo p r (i + 1)
def idxL {α : Type} (p : α → Bool) (l : List α) : Int := idxGo p l 0
theorem idxGo_drop {α : Type} (p : α → Bool) {l : List α} {k : Nat} {x : α} (h : l[k]? = some x) (i : Int) : idxGo p (l.drop k) i = if p x = true then i else idxGo p (l.drop (k + 1)) (i + 1) := by
  obtain ⟨hk, rfl⟩ := List.getElem?_eq_some_iff.1 h
  rw [List.drop_eq_getElem_cons hk]; rfl
theorem idxGo_nonneg {α : Type} (p : α → Bool) (l : List α) (i : Int) (hi : 0 ≤ i) : 0 ≤ idxGo p l i ↔ l.any p = true := by
  induction l generalizing i with
  | nil => simp [idxGo]
  | cons x r ih =>
    show 0 ≤ (if p x = true then i else idxGo p r (i + 1)) ↔ _
    by_cases h : p x = true
    · simp [h, hi]
    · rw [if_neg h, ih (i + 1) (by omega)]; simp [h]
theorem idxL_nonneg {α : Type} (p : α → Bool) (l : List α) : decide (0 ≤ idxL p l) = l.any p := by
  have h := idxGo_nonneg p l 0 (by omega)
  unfold idxL
  cases hb : l.any p with
  | true => exact decide_eq_true (h.2 hb)
  | false => exact decide_eq_false (fun h0 => by rw [h.1 h0] at hb; cases hb)
theorem idxGo_bd {α : Type} (p : α → Bool) (l : List α) (i : Int) (hi : 0 ≤ i) : -1 ≤ idxGo p l i ∧ idxGo p l i < i + l.length + 1 := by
  induction l generalizing i with
  | nil => simp [idxGo]; omega
  | cons x r ih =>
    show -1 ≤ (if p x = true then i else idxGo p r (i + 1)) ∧ (if p x = true then i else idxGo p r (i + 1)) < i + (r.length + 1 : Nat) + 1
    have := ih (i + 1) (by omega)
    split <;> omega
theorem idxL_bd {α : Type} (p : α → Bool) (l : List α) : -1 ≤ idxL p l ∧ idxL p l ≤ l.length := by
  have := idxGo_bd p l 0 (by omega); unfold idxL; omega

/-- Each item is checked, with those before it; the first error counts. -/
def eachGo {α : Type} (chk : α → List α → Int) : List α → List α → Int
  | _, [] => 0
  | pre, x :: r => if chk x pre = 0 then eachGo chk (pre ++ [x]) r else chk x pre
def eachC {α : Type} (chk : α → List α → Int) (most : Int) (l : List α) : Int := if most < l.length then 4 else eachGo chk [] l
theorem eachGo_step {α : Type} (chk : α → List α → Int) {l : List α} {k : Nat} {x : α} (h : l[k]? = some x) : eachGo chk (l.take k) (l.drop k) = if chk x (l.take k) = 0 then eachGo chk (l.take (k + 1)) (l.drop (k + 1)) else chk x (l.take k) := by
  obtain ⟨hk, rfl⟩ := List.getElem?_eq_some_iff.1 h
  rw [List.drop_eq_getElem_cons hk, List.take_succ_eq_append_getElem hk]; rfl

def wthn (n a b : Int) : Bool := decide (a ≤ n) && decide (n ≤ b)
def nearB (r z f : Int) : Bool := wthn r (-f) f && wthn z (-f) f
def smallB (b : Int) : Bool := decide (97 ≤ b) && decide (b ≤ 122)
def nameByte (b : Int) : Bool := smallB b || (decide (b = 95) || (decide (48 ≤ b) && decide (b ≤ 57)))
def nameB : List UInt8 → Bool
  | [] => false
  | c :: r => decide (r.length < 16) && (smallB c.toNat && (c :: r).all fun b => nameByte b.toNat)
def rng (b : Bool) : Int := if b = true then 0 else 7
def coilC (c : CoilD) (e : List CoilD) : Int :=
  if nameB c.name.data.toList = true then
    if e.any (fun x => decide (x.name = c.name)) = true then 6
    else rng (nearB c.r c.z 60 && (wthn c.turns 1 100 && (wthn c.cur 1 1000000 && (wthn c.step 1 1000000 && (wthn c.heat 1 1000000000000 && wthn c.cool 0 1000000000)))))
  else 1
def shellC (s : ShellD) (_ : List ShellD) : Int := rng (nearB s.r s.z 60 && (wthn s.self 1 1000000000 && wthn s.loss 1 1000))
def limitC (p : PointD) (e : List PointD) : Int := if nearB p.r p.z 60 = true then if e.any (fun x => decide (x.r = p.r) && decide (x.z = p.z)) = true then 6 else 0 else 7
def sensorC (s : SensorD) (e : List SensorD) : Int :=
  if nameB s.name.data.toList = true then
    if e.any (fun x => decide (x.name = s.name)) = true then 6
    else rng (wthn s.kind 1 3 && (nearB s.r s.z 60 && wthn s.error 0 1000000000))
  else 1
def cellR (g : GridD) (i : Int) : Int := g.r + i % g.nr * g.step
def cellZ (g : GridD) (i : Int) : Int := g.z + i / g.nr * g.step
def gridC (g : GridD) : Int :=
  if (wthn g.nr 1 8 && (wthn g.nz 1 8 && wthn g.step 1 10)) = true then
    if nearB g.r g.z 60 = true then rng (nearB (cellR g (g.nr * g.nz - 1)) (cellZ g (g.nr * g.nz - 1)) 60) else 7
  else 7
def limitsC (l : List PointD) : Int := if l.length = 0 then 8 else eachC limitC 16 l
def orL : List Int → Int
  | [] => 0
  | x :: r => if x = 0 then orL r else x
def nameC (s : ByteArray) : Int := if nameB s.data.toList = true then 0 else 1
def checkC (m : MachD) : Int := orL [nameC m.name, eachC coilC 12 m.coils, eachC shellC 16 m.shells, limitsC m.limits, gridC m.grid, eachC sensorC 24 m.sensors]

end Go.Proofs.YtjjajleiladbhaaGreatDoor
end
section
/- Package machine: contracts of the small functions (within, near, validPlace, checkRange, small, Name, checkName, cells, cellPlace, checkGrid), over this seat's translation. -/
namespace Go.Proofs.YtjjajleiladbhaaGreatDoor
set_option linter.unusedVariables false
set_option linter.unusedSimpArgs false
open Go.RowKit

set_option maxHeartbeats 400000 in
theorem mwithin_any (n a b : Int) (w : World) :
    Calls Tryz.prog 74 #[.int .i64 n, .int .i64 a, .int .i64 b] w fun e w' => e = .returned (.bool (wthn n a b)) ∧ w = w' := by
  go_enter Tryz.func74, Tryz.ntmps74
  go_wp2
  all_goals go_ret
  all_goals (simp [wthn]; try omega)

set_option maxHeartbeats 400000 in
theorem near_any (r z f : Int) (w : World) (h0 : 0 ≤ f) (h1 : f ≤ 1000000) :
    Calls Tryz.prog 80 #[.int .i64 r, .int .i64 z, .int .i64 f] w fun e w' => e = .returned (.bool (nearB r z f)) ∧ w = w' := by
  have HE : Hid (nearB r z f = (wthn r (-f) f && wthn z (-f) f)) := Lib.hid rfl
  cases h : wthn r (-f) f
  · go_enter Tryz.func80, Tryz.ntmps80
    go_wp2_with (go_at_call 74; refine (mwithin_any _ _ _ _).mono ?_; rintro e w1 ⟨rfl, rfl⟩)
    go_ret
    exact ⟨by rw [HE.out, h]; rfl, rfl⟩
  · go_enter Tryz.func80, Tryz.ntmps80
    go_wp2_with (go_at_call 74; refine (mwithin_any _ _ _ _).mono ?_; rintro e w1 ⟨rfl, rfl⟩)
    go_ret
    exact ⟨by rw [HE.out, h]; rfl, rfl⟩

set_option maxHeartbeats 400000 in
theorem validPlace_any (r z : Int) (w : World) :
    Calls Tryz.prog 95 #[.int .i64 r, .int .i64 z] w fun e w' => e = .returned (.bool (nearB r z 60)) ∧ w = w' := by
  go_enter Tryz.func95, Tryz.ntmps95
  go_wp2_with (go_at_call 80; refine (near_any _ _ _ _ (by omega) (by omega)).mono ?_; rintro e w1 ⟨rfl, rfl⟩)
  go_ret
  exact ⟨rfl, rfl⟩

set_option maxHeartbeats 400000 in
theorem checkRange_any (b : Bool) (w : World) :
    Calls Tryz.prog 94 #[.bool b] w fun e w' => e = .returned (.int .i64 (rng b)) ∧ w = w' := by
  cases b
  · go_enter Tryz.func94, Tryz.ntmps94
    go_wp2
    go_ret
    exact ⟨rfl, rfl⟩
  · go_enter Tryz.func94, Tryz.ntmps94
    go_wp2
    go_ret
    exact ⟨rfl, rfl⟩

set_option maxHeartbeats 400000 in
theorem small_any (b : Int) (w : World) :
    Calls Tryz.prog 56 #[.int .u8 b] w fun e w' => e = .returned (.bool (smallB b)) ∧ w = w' := by
  go_enter Tryz.func56, Tryz.ntmps56
  go_wp2
  all_goals go_ret
  all_goals (simp [smallB]; try omega)

theorem indexS_any (B : ByteArray) (l : List UInt8) (hl : B.data.toList = l) (k : Nat) (h : k < l.length) (W : World) :
    (Instr.index 9 (.string B) (.int .i64 (k : Int))).run Tryz.prog W = .ok (.int .u8 (l[k].toNat : Int)) W := by
  subst hl
  have hk : k < B.size := by have : B.data.toList.length = B.size := Array.length_toList; omega
  rw [run_index_string _ _ _ _ _ (by kernel_rfl), dif_pos ⟨by omega, by omega⟩]
  rfl

set_option maxHeartbeats 2000000 in
theorem name_any (s : ByteArray) (w : World) :
    Calls Tryz.prog 14 #[.string s] w fun e w' => e = .returned (.bool (nameB s.data.toList)) ∧ w = w' := by
  have hz : s.data.toList.length = s.size := Array.length_toList
  cases hL : s.data.toList with
  | nil =>
    rw [hL] at hz
    have h1 : s.size = 0 := hz.symm
    clear hz hL
    go_enter Tryz.func14, Tryz.ntmps14
    go_wp2
    go_ret
    exact ⟨rfl, rfl⟩
  | cons c r =>
    rw [hL] at hz
    have hz1 : s.size = r.length + 1 := by rw [← hz]; rfl
    have ix0 : ∀ W : World, (Instr.index 9 (.string s) (.int .i64 0)).run Tryz.prog W = .ok (.int .u8 (c.toNat : Int)) W := fun W => indexS_any s (c :: r) hL 0 (by simp) W
    have HG : Hid (nameB (c :: r) = (decide (r.length < 16) && (smallB c.toNat && (c :: r).all fun b => nameByte b.toNat))) := Lib.hid rfl
    generalize nameB (c :: r) = G at *
    have hs1 : 1 ≤ s.size := by omega
    have hs0 : ((s.size : Int) == 0) = false := by rw [beq_eq_false_iff_ne]; omega
    by_cases h16 : r.length < 16
    · have hs2 : s.size ≤ 16 := by omega
      cases hsm : smallB c.toNat
      · have HN : Hid (G = false) := Lib.hid (by rw [HG.out, hsm]; simp)
        clear hz hz1 hL HG
        generalize (c.toNat : Int) = ci at *
        go_enter Tryz.func14, Tryz.ntmps14
        go_wp2_with (go_at_call 56; refine (small_any _ _).mono ?_; rintro e w1 ⟨rfl, rfl⟩)
        go_ret
        exact ⟨by rw [HN.out]; rfl, rfl⟩
      · have HN : Hid (G = (c :: r).all fun b => nameByte b.toNat) := Lib.hid (by rw [HG.out, hsm, decide_eq_true h16]; simp)
        obtain ⟨l, hl⟩ : ∃ l, c :: r = l := ⟨_, rfl⟩
        rw [hl] at HN hL hz
        clear HG hl hz1
        generalize (c.toNat : Int) = ci at *
        have HL := Lib.hid hL
        have HZ := Lib.hid hz
        clear hL hz
        go_enter Tryz.func14, Tryz.ntmps14
        go_wp2_with (go_at_call 56; refine (small_any _ _).mono ?_; rintro e w1 ⟨rfl, rfl⟩)
        clear ix0 hsm
        go_loop [3, 4, 21] (fun _ _ i => ∃ k : Nat, k ≤ s.size ∧ i = .int .i64 k ∧ Hid (((l.drop k).all fun b => nameByte b.toNat) = G)) (fun _ _ i => s.size - (intOf i).toNat)
        case atStart => exact ⟨0, Nat.zero_le _, rfl, Lib.hid (by rw [HN.out]; rfl)⟩
        case round =>
          obtain ⟨k, hk, rfl, hG⟩ := hrel
          by_cases hlt : k < s.size
          · have hkl : k < l.length := by rw [HZ.out]; exact hlt
            have ix := indexS_any s l HL.out k hkl
            have HS := Lib.hid (show (nameByte l[k].toNat && ((l.drop (k + 1)).all fun b => nameByte b.toNat)) = G from by rw [← hG.out, List.drop_eq_getElem_cons hkl]; rfl)
            have c255 : l[k].toNat < 256 := l[k].toNat_lt
            obtain ⟨x, hxe⟩ : ∃ x : Int, (l[k].toNat : Int) = x := ⟨_, rfl⟩
            rw [hxe] at ix HS
            have hx0 : 0 ≤ x := by omega
            have hx1 : x < 256 := by omega
            clear hkl hxe c255
            cases hnb : nameByte x
            · have HF : Hid (G = false) := Lib.hid (by rw [← HS.out, hnb]; rfl)
              have h1 : smallB x = false := by unfold nameByte at hnb; simp at hnb; exact hnb.1
              have h2 : x ≠ 95 := by unfold nameByte at hnb; simp at hnb; omega
              have h3 : x < 48 ∨ 57 < x := by unfold nameByte at hnb; simp at hnb; omega
              have hne : (x != 95) = true := by rw [bne_iff_ne]; exact h2
              clear HS hnb h2
              rcases h3 with h3 | h3
              · go_wp2_with (go_at_call 56; refine (small_any _ _).mono ?_; rintro e w1 ⟨rfl, rfl⟩)
                go_ret
                exact ⟨by rw [HF.out]; rfl, rfl⟩
              · go_wp2_with (go_at_call 56; refine (small_any _ _).mono ?_; rintro e w1 ⟨rfl, rfl⟩)
                go_ret
                exact ⟨by rw [HF.out]; rfl, rfl⟩
            · have HT : Hid (((l.drop (k + 1)).all fun b => nameByte b.toNat) = G) := Lib.hid (by rw [← HS.out, hnb]; rfl)
              clear HS
              cases hsm : smallB x
              · by_cases h95 : x = 95
                · have hne : (x != 95) = false := by rw [h95]; rfl
                  clear hnb h95
                  go_wp2_with (go_at_call 56; refine (small_any _ _).mono ?_; rintro e w1 ⟨rfl, rfl⟩)
                  go_round
                  case rel => exact ⟨k + 1, by omega, by go_num, HT⟩
                  case measure => simp [intOf]; omega
                · have hne : (x != 95) = true := by rw [bne_iff_ne]; exact h95
                  have h48 : 48 ≤ x ∧ x ≤ 57 := by unfold nameByte at hnb; rw [hsm] at hnb; simp [h95] at hnb; exact hnb
                  obtain ⟨h48, h57⟩ := h48
                  clear hnb h95
                  go_wp2_with (go_at_call 56; refine (small_any _ _).mono ?_; rintro e w1 ⟨rfl, rfl⟩)
                  go_round
                  case rel => exact ⟨k + 1, by omega, by go_num, HT⟩
                  case measure => simp [intOf]; omega
              · clear hnb
                go_wp2_with (go_at_call 56; refine (small_any _ _).mono ?_; rintro e w1 ⟨rfl, rfl⟩)
                go_round
                case rel => exact ⟨k + 1, by omega, by go_num, HT⟩
                case measure => simp [intOf]; omega
          · have HT : Hid (G = true) := Lib.hid (by rw [← hG.out, List.drop_of_length_le (by rw [HZ.out]; omega)]; rfl)
            go_wp2
            go_ret
            exact ⟨by rw [HT.out]; rfl, rfl⟩
    · have hs2 : 16 < s.size := by omega
      have HN : Hid (G = false) := Lib.hid (by rw [HG.out, decide_eq_false h16]; rfl)
      clear hz hz1 hL HG h16
      go_enter Tryz.func14, Tryz.ntmps14
      go_wp2_with fail
      go_ret
      exact ⟨by rw [HN.out]; rfl, rfl⟩

set_option maxHeartbeats 400000 in
theorem checkName_any (s : ByteArray) (w : World) :
    Calls Tryz.prog 58 #[.string s] w fun e w' => e = .returned (.int .i64 (nameC s)) ∧ w = w' := by
  have HE : Hid (nameC s = if nameB s.data.toList = true then 0 else 1) := Lib.hid rfl
  have HN := Lib.hid (fun W => name_any s W)
  cases h : nameB s.data.toList
  all_goals rw [h] at HN HE
  all_goals clear h
  all_goals go_enter Tryz.func58, Tryz.ntmps58
  all_goals go_wp2_with (go_at_call 14; refine (HN.out _).mono ?_; rintro e w1 ⟨rfl, rfl⟩)
  all_goals go_ret
  all_goals exact ⟨by rw [HE.out]; rfl, rfl⟩

end Go.Proofs.YtjjajleiladbhaaGreatDoor
end
