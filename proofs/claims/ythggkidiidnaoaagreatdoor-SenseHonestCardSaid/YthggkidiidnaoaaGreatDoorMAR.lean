import Derived.Test.YthggkidiidnaoaaGreatDoorMAK
import Derived.Test.YthggkidiidnaoaaGreatDoorMAM
import Derived.Test.YthggkidiidnaoaaGreatDoorMAQ
import Derived.Maps.AppendAt
import Derived.Deep.OwnRows
namespace Go.Proofs.YthggkidiidnaoaaGreatDoor
set_option linter.unusedVariables false
set_option linter.unusedSimpArgs false
section
open Go.RowKit Go.Shelf
structure RowL (b : Nat) (vs : List Value) (W : World) : Prop where
  lt : b < W.heap.size
  cell : ∀ (j : Nat) (v : Value), vs[j]? = some v → W.cell? ⟨b, j, none⟩ = some v
  mark : ∀ j, j < vs.length → W.frozen? ⟨b, j, none⟩ = false
theorem RowL.below {b : Nat} {vs : List Value} {W W' : World} (h : RowL b vs W) (hb : Below W.heap.size W W') : RowL b vs W' :=
  ⟨Nat.lt_of_lt_of_le h.lt hb.size, fun j v hv => (hb.cell (p := ⟨b, j, none⟩) h.lt).trans (h.cell j v hv), fun j hj => (hb.frozen (p := ⟨b, j, none⟩) h.lt).trans (h.mark j hj)⟩
theorem RowL.new (W : World) (cs : Array Value) (t : TypeId) : RowL W.heap.size cs.toList (W.alloc (.cells cs t)) := by
  refine ⟨by simp, fun j v hv => ?_, fun j hj => ?_⟩
  · rw [Array.getElem?_toList] at hv
    unfold World.cell?
    rw [heap_alloc_new]
    simpa using hv
  · unfold World.frozen?
    rw [heap_alloc_new]
    simp
theorem RowL.drew {b : Nat} {vs : List Value} {W : World} (h : RowL b vs W) : RowL b vs W.drew := h.below ((Below.refl _ _).drew)
theorem RowL.alloc {b : Nat} {vs : List Value} {W : World} (h : RowL b vs W) (o : Obj) : RowL b vs (W.alloc o) := h.below ((Below.refl _ _).alloc (Nat.le_refl _) o)
theorem RowL.far {b : Nat} {vs : List Value} {W : World} (h : RowL b vs W) {p : Addr} (hp : b ≠ p.block) (v : Value) : RowL b vs (W.setCell p v) :=
  ⟨by rw [World.size_setCell]; exact h.lt, fun j u hu => by
      rw [World.cell?_setCell_other _ _ _ _ (fun e => hp (by exact (congrArg Addr.block e).symm))]; exact h.cell j u hu, fun j hj => by rw [World.frozen?_setCell]; exact h.mark j hj⟩
theorem RowL.put {b : Nat} {vs : List Value} {W : World} (h : RowL b vs W) (k : Nat) (v : Value) (hk : k < vs.length) : RowL b (vs.set k v) (W.setCell ⟨b, k, none⟩ v) :=
  ⟨by rw [World.size_setCell]; exact h.lt, fun j u hu => by
      by_cases e : j = k
      · subst e
        rw [List.getElem?_set_self hk] at hu
        obtain rfl := Option.some.inj hu
        exact World.cell?_setCell_same' _ _ _ (by rw [h.cell j _ (List.getElem?_eq_getElem hk)]; rfl)
      · rw [World.cell?_setCell_other _ _ _ _ (fun h2 => by
          have := congrArg Addr.off h2
          dsimp only at this
          omega)]
        exact h.cell j u (by rwa [List.getElem?_set_ne (Ne.symm e)] at hu), fun j hj => by rw [World.frozen?_setCell]; exact h.mark j (by simpa using hj)⟩
theorem ZeroL.row {b n : Nat} {W : World} (h : ZeroL b n W) : RowL b (List.replicate n (.int .i64 0)) W :=
  ⟨h.lt, fun j v hv => by
    have hj := (List.getElem?_eq_some_iff.1 hv).1
    rw [List.length_replicate] at hj
    rw [List.getElem?_replicate, if_pos hj] at hv
    obtain rfl := Option.some.inj hv
    exact h.cell j hj, fun j hj => h.mark j (by simpa using hj)⟩
theorem fill_set (T : List Value) (n j : Nat) (z v : Value) (hl : T.length = n) (hv : T[j]? = some v) : (T.take j ++ List.replicate (n - j) z).set j v = T.take (j + 1) ++ List.replicate (n - (j + 1)) z := by
  obtain ⟨hj, rfl⟩ := List.getElem?_eq_some_iff.1 hv
  have h1 : (T.take j).length = j := by rw [List.length_take]; omega
  rw [List.set_append_right _ _ (by omega), h1, Nat.sub_self, show n - j = (n - (j + 1)) + 1 by omega, List.replicate_succ, List.set_cons_zero, List.take_succ_eq_append_getElem hj, List.append_assoc]; rfl
theorem push_new {ops : Array Oper} {o : Oper} {a : Act} {K : Act → World → Prop} {Q : Exit → Act → World → Prop} {E : Prop} {w : World} (B : Nat) (hgd : o.guard = none) (s x : Operand)
    (ho : o.op = .call { callee := .builtin .append, args := #[s, x], argTypes := #[30, 30] })
    (g : Nat) (hs : a.eval s = .slice (some ⟨g, 0, none⟩) 0 0) (hg : w.heap[g]? = some (.cells #[] 3 (0, 0))) (A : Option Addr) (len cap : Nat) (zs : List Int) (hx : a.eval x = .slice A len cap)
    (hI : IsT 1 intCells w A len zs) (hl : len ≤ 100000) (hB : B ≤ w.heap.size) (hBg : B ≤ g)
    (hk : ∀ A' cap' w', NewI B w' A' len cap' zs → (∀ a, A' = some a → a.block = g ∨ w.heap.size ≤ a.block) → Below w.heap.size w w' → K (a.put o.dst (.slice A' len cap')) w') :
    if Region.wanted o (yielded ops a.tmps) = true then Oper.wp Tryz.prog o a w K Q else E := by
  have hI0 : (Tryz.prog.info? 3).map (fun i => (i.zero, i.size, i.bytes)) = some (some (.int .i64 0), 1, 8) := by kernel_rfl
  obtain ⟨i0, hi, hz0, hz1, hz2⟩ := info_parts hI0
  have hw : Region.wanted o (yielded ops a.tmps) = true := by simp [Region.wanted, hgd]
  rw [if_pos hw]
  have hgl : g < w.heap.size := (Array.getElem?_eq_some_iff.1 hg).1
  have hown : w.ownsRow B 3 1 (.slice (some ⟨g, 0, none⟩) 0 0) 0 [] := ⟨rfl, Or.inr ⟨g, 0, #[], rfl, hBg, hg, Nat.le_refl _, Nat.zero_le _, rfl, rfl⟩⟩
  obtain ⟨v', w', hr, h2, h3⟩ := run_push (P := Tryz.prog) (w := w) B 30 o.type 3 i0 8 Tryz.underlying30 hi hz0 hz1 hz2 (.slice (some ⟨g, 0, none⟩) 0 0) 0 [] hown A len cap zs hI (by unfold maxLen; omega) (by omega) hB
  rw [List.nil_append, Nat.zero_add] at h2
  have hb : Below w.heap.size w w' ∧ (∀ A1 n1 c1, v' = .slice A1 n1 c1 → ∀ a, A1 = some a → a.block = g ∨ w.heap.size ≤ a.block) := by
    rcases Nat.eq_zero_or_pos len with h | h
    · subst h
      have : (Builtin.append_ #[30, 30] o.type #[.slice (some ⟨g, 0, none⟩) 0 0, .slice A 0 cap]).run Tryz.prog w = .ok (.slice (some ⟨g, 0, none⟩) 0 0) w := by
        cases A <;> simp [Builtin.append_, run_underlying Tryz.underlying30, sizeOf, typeInfo, hi, Builtin.lenOf, Builtin.firstCells, storeCells, loadCells, loadCellsFrom, Result.andThen]
      rw [this] at hr
      injection hr with hv hr
      subst hr
      subst hv
      refine ⟨Below.refl _ _, fun A1 n1 c1 e a ha => ?_⟩
      injection e with e _ _
      subst e
      obtain rfl := Option.some.inj ha
      exact Or.inl rfl
    · obtain ⟨b, p, rfl, hb, hcl⟩ := hI.2 h
      have hA : ∀ j u, (zs.map (Value.int .i64))[j]? = some u → w.cell? ((⟨b, p, none⟩ : Addr).add j) = some u := fun j u hu => by
        rw [List.getElem?_map] at hu
        obtain ⟨x, hx, rfl⟩ := Option.map_eq_some_iff.1 hu
        have := hcl j x hx 0 _ rfl
        cases j with
        | zero => simpa [Addr.add] using this
        | succ k => simpa [Addr.add] using this
      have := run_append_grow (P := Tryz.prog) (w := w) 30 o.type 3 i0 (.int .i64 0) Tryz.underlying30 hi hz0 ⟨g, 0, none⟩ 0 0 [] (by simp) (by simp) ⟨b, p, none⟩ len cap (zs.map (Value.int .i64)) (by rw [hz1, List.length_map, hI.1]; omega) hA (by omega) (by omega) (by rw [hz2]; exact growslice_fits (by omega) (by omega))
      rw [this] at hr
      injection hr with hv hr
      subst hr
      subst hv
      refine ⟨((Below.refl _ _).drew).alloc (Nat.le_refl _) _, fun A1 n1 c1 e a ha => ?_⟩
      injection e with e _ _
      subst e
      obtain rfl := Option.some.inj ha
      exact Or.inr (Nat.le_refl _)
  obtain ⟨A', cap', rfl, hN⟩ := newI_of_row hI.1 h2
  unfold Oper.wp execOp
  simp only [ho, resolve, invoke, builtin, Sem.run_bind, Sem.run_pure, Result.andThen_ok, List.map_toArray, List.map_cons, List.map_nil, hs, hx, hr]
  exact hk A' cap' w' hN (hb.2 A' _ _ rfl) hb.1
end
section
open Go.RowKit Go.Shelf
end
section
open Go.RowKit Go.Shelf
def MadeAt (n : Nat) (T : List Value) (w : World) (e : Ending) (w' : World) : Prop :=
  ∃ b : Nat, e = .returned (.slice (some ⟨b, 0, none⟩) n n) ∧ w.heap.size ≤ b ∧ RowL b T w' ∧ Below w.heap.size w w'
theorem fill_get (T : List Value) (n j : Nat) (z : Value) (hl : T.length = n) (hj : j < n) : (T.take j ++ List.replicate (n - j) z)[j]? = some z := by
  have h1 : (T.take j).length = j := by rw [List.length_take]; omega
  rw [List.getElem?_append_right (by omega), h1, Nat.sub_self, List.getElem?_replicate, if_pos (by omega)]
theorem fill_len (T : List Value) (n j : Nat) (z : Value) (hl : T.length = n) (hj : j ≤ n) : (T.take j ++ List.replicate (n - j) z).length = n := by
  rw [List.length_append, List.length_take, List.length_replicate]; omega
theorem fill_all (T : List Value) (n : Nat) (z : Value) (hl : T.length = n) : T.take n ++ List.replicate (n - n) z = T := by
  rw [Nat.sub_self, List.replicate_zero, List.append_nil, List.take_of_length_le (by omega)]
theorem fill_none (T : List Value) (n : Nat) (z : Value) : T.take 0 ++ List.replicate (n - 0) z = List.replicate n z := by
  rw [List.take_zero, List.nil_append, Nat.sub_zero]
theorem RowL.fill {b : Nat} {T : List Value} {n j : Nat} {z v : Value} {W : World} (h : RowL b (T.take j ++ List.replicate (n - j) z) W) (hl : T.length = n) (hj : j < n) (hv : T[j]? = some v) : RowL b (T.take (j + 1) ++ List.replicate (n - (j + 1)) z) (W.setCell ⟨b, j, none⟩ v) := by
  have := h.put j v (by rw [fill_len T n j z hl (by omega)]; exact hj)
  rwa [fill_set T n j z v hl hv] at this
end
section
open Go.RowKit Go.Shelf
theorem resC {fn : Func} {a : Tmp} (h : fn.results = #[.cell a 32]) (tmps : Array Value) (W : World) (x : Nat) (v0 v1 v2 : Value)
    (hp : tmps.getD a undef = .pointer (some ⟨x, 0, none⟩)) (e0 : W.cell? ⟨x, 0, none⟩ = some v0) (e1 : W.cell? ⟨x, 1, none⟩ = some v1) (e2 : W.cell? ⟨x, 2, none⟩ = some v2) :
    (results fn tmps).run Tryz.prog W = .ok (.agg #[v0, v1, v2]) W := by
  have hp' : tmps[a]?.getD undef = .pointer (some ⟨x, 0, none⟩) := by simpa using hp
  simp [results, h, hp', go_sem, e0, e1, e2]
theorem resC3 {fn : Func} {p : Tmp} (h : fn.results = #[.cell p 32]) (tmps : Array Value) (W : World) (b : Nat) (x y z : Value)
    (hp : tmps.getD p undef = .pointer (some ⟨b, 0, none⟩)) (h0 : (W.cell? ⟨b, 0, none⟩).isSome = true) (h1 : (W.cell? ⟨b, 1, none⟩).isSome = true) (h2 : (W.cell? ⟨b, 2, none⟩).isSome = true) :
    (results fn tmps).run Tryz.prog (((W.setCell ⟨b, 0, none⟩ x).setCell ⟨b, 1, none⟩ y).setCell ⟨b, 2, none⟩ z) = .ok (.agg #[x, y, z]) (((W.setCell ⟨b, 0, none⟩ x).setCell ⟨b, 1, none⟩ y).setCell ⟨b, 2, none⟩ z) := by
  refine resC h tmps _ b x y z hp ?_ ?_ ?_
  · rw [World.cell?_setCell_other _ _ _ _ (by simp), World.cell?_setCell_other _ _ _ _ (by simp)]; exact World.cell?_setCell_same' _ _ _ h0
  · rw [World.cell?_setCell_other _ _ _ _ (by simp)]; exact World.cell?_setCell_same' _ _ _ (by rw [World.cell?_setCell_other _ _ _ _ (by simp)]; exact h1)
  · exact World.cell?_setCell_same' _ _ _ (by rw [World.cell?_setCell_other _ _ _ _ (by simp), World.cell?_setCell_other _ _ _ _ (by simp)]; exact h2)
structure DarkAt (B : Nat) (w' : World) (A : Option Addr) (na ca : Nat) (z1 : List Int) (A2 : Option Addr) (nb cb : Nat) (z2 : List Int) (pb nc : Nat) : Prop where
  coils : NewI B w' A na ca z1
  shells : NewI B w' A2 nb cb z2
  base : B ≤ pb
  lt : pb < w'.heap.size
  apart : (∀ a, A = some a → a.block ≠ pb) ∧ ∀ a, A2 = some a → a.block ≠ pb
  zero : ZeroL pb nc w'
def Dark (na nb nc : Nat) (z1 z2 : List Int) (w : World) (e : Ending) (w' : World) : Prop :=
  ∃ (A : Option Addr) (ca : Nat) (A2 : Option Addr) (cb pb : Nat), e = .returned (.agg #[.slice A na ca, .slice A2 nb cb, .slice (some ⟨pb, 0, none⟩) nc nc]) ∧ DarkAt w.heap.size w' A na ca z1 A2 nb cb z2 pb nc ∧ Below w.heap.size w w'
theorem infoI : (Tryz.prog.info? 3).map (fun i => (i.zero, i.size, i.bytes)) = some (some (.int .i64 0), 1, 8) := by kernel_rfl
set_option maxRecDepth 100000 in
set_option maxHeartbeats 4000000 in
theorem dark_any (A1 B1 C1 : Option Addr) (na qa nb qb nc qc : Nat) (z1 z2 : List Int) (w : World) (h1 : IsT 1 intCells w A1 na z1) (h2 : IsT 1 intCells w B1 nb z2) (l1 : na ≤ 1000000000000) (l2 : nb ≤ 1000000000000) (l3 : nc ≤ 1000000000000) :
    Calls Tryz.prog 108 #[.agg #[.slice A1 na qa, .slice B1 nb qb, .slice C1 nc qc]] w (Dark na nb nc z1 z2 w) := by
  have HK1 := Lib.hid (fun W (hb : Below w.heap.size w W) => clone_any A1 na qa z1 W (h1.below hb) l1)
  have HK2 := Lib.hid (fun W (hb : Below w.heap.size w W) => clone_any B1 nb qb z2 W (h2.below hb) l2)
  clear h1 h2
  have hmk := run_make_row' (P := Tryz.prog) 30 3 (.int .i64 0) 8 Tryz.underlying30 infoI rfl .i64 .i64 nc (by omega) (by omega)
  go_enter Tryz.func108, Tryz.ntmps108
  go_upto_region 1 with (fail)
  have c0 : ((w.alloc (.cells #[.slice A1 na qa, .slice B1 nb qb, .slice C1 nc qc] 32)).alloc (.cells #[.slice none 0 0, .slice none 0 0, .slice none 0 0] 32)).cell? ⟨w.heap.size, 0, none⟩ = some (.slice A1 na qa) := by go_simp
  have c1 : ((w.alloc (.cells #[.slice A1 na qa, .slice B1 nb qb, .slice C1 nc qc] 32)).alloc (.cells #[.slice none 0 0, .slice none 0 0, .slice none 0 0] 32)).cell? ⟨w.heap.size, 1, none⟩ = some (.slice B1 nb qb) := by go_simp
  have c2 : ((w.alloc (.cells #[.slice A1 na qa, .slice B1 nb qb, .slice C1 nc qc] 32)).alloc (.cells #[.slice none 0 0, .slice none 0 0, .slice none 0 0] 32)).cell? ⟨w.heap.size, 2, none⟩ = some (.slice C1 nc qc) := by go_simp
  have d0 : ((w.alloc (.cells #[.slice A1 na qa, .slice B1 nb qb, .slice C1 nc qc] 32)).alloc (.cells #[.slice none 0 0, .slice none 0 0, .slice none 0 0] 32)).cell? ⟨w.heap.size + 1, 0, none⟩ = some (.slice none 0 0) := by go_simp
  have f0 : ((w.alloc (.cells #[.slice A1 na qa, .slice B1 nb qb, .slice C1 nc qc] 32)).alloc (.cells #[.slice none 0 0, .slice none 0 0, .slice none 0 0] 32)).frozen? ⟨w.heap.size + 1, 0, none⟩ = false := by go_simp
  have d1 : ((w.alloc (.cells #[.slice A1 na qa, .slice B1 nb qb, .slice C1 nc qc] 32)).alloc (.cells #[.slice none 0 0, .slice none 0 0, .slice none 0 0] 32)).cell? ⟨w.heap.size + 1, 1, none⟩ = some (.slice none 0 0) := by go_simp
  have f1 : ((w.alloc (.cells #[.slice A1 na qa, .slice B1 nb qb, .slice C1 nc qc] 32)).alloc (.cells #[.slice none 0 0, .slice none 0 0, .slice none 0 0] 32)).frozen? ⟨w.heap.size + 1, 1, none⟩ = false := by go_simp
  have d2 : ((w.alloc (.cells #[.slice A1 na qa, .slice B1 nb qb, .slice C1 nc qc] 32)).alloc (.cells #[.slice none 0 0, .slice none 0 0, .slice none 0 0] 32)).cell? ⟨w.heap.size + 1, 2, none⟩ = some (.slice none 0 0) := by go_simp
  have f2 : ((w.alloc (.cells #[.slice A1 na qa, .slice B1 nb qb, .slice C1 nc qc] 32)).alloc (.cells #[.slice none 0 0, .slice none 0 0, .slice none 0 0] 32)).frozen? ⟨w.heap.size + 1, 2, none⟩ = false := by go_simp
  have hB : Below w.heap.size w ((w.alloc (.cells #[.slice A1 na qa, .slice B1 nb qb, .slice C1 nc qc] 32)).alloc (.cells #[.slice none 0 0, .slice none 0 0, .slice none 0 0] 32)) := by (repeat first | with_reducible exact Below.refl _ _ | (with_reducible refine Below.alloc ?_ ?_ _; rotate_left; exact (by first | omega | (simp; done))))
  have hz : w.heap.size + 1 < ((w.alloc (.cells #[.slice A1 na qa, .slice B1 nb qb, .slice C1 nc qc] 32)).alloc (.cells #[.slice none 0 0, .slice none 0 0, .slice none 0 0] 32)).heap.size := by simp
  obtain ⟨W0, hW0⟩ : ∃ W, (w.alloc (.cells #[.slice A1 na qa, .slice B1 nb qb, .slice C1 nc qc] 32)).alloc (.cells #[.slice none 0 0, .slice none 0 0, .slice none 0 0] 32) = W := ⟨_, rfl⟩
  rw [hW0] at c0 c1 c2 d0 d1 d2 f0 f1 f2 hB hz ⊢
  clear hW0
  have HS : Hid (∀ w' : World, Reg (w.heap.size + 1) (W0) w' → (Reg (w.heap.size + 1) (W0) w' ∧ w'.cell? ⟨w.heap.size, 0, none⟩ = some (.slice A1 na qa) ∧ w'.cell? ⟨w.heap.size, 1, none⟩ = some (.slice B1 nb qb) ∧ w'.cell? ⟨w.heap.size, 2, none⟩ = some (.slice C1 nc qc) ∧ w'.cell? ⟨w.heap.size + 1, 0, none⟩ = some (cur w' ⟨w.heap.size + 1, 0, none⟩) ∧ w'.frozen? ⟨w.heap.size + 1, 0, none⟩ = false ∧ w'.cell? ⟨w.heap.size + 1, 1, none⟩ = some (cur w' ⟨w.heap.size + 1, 1, none⟩) ∧ w'.frozen? ⟨w.heap.size + 1, 1, none⟩ = false ∧ w'.cell? ⟨w.heap.size + 1, 2, none⟩ = some (cur w' ⟨w.heap.size + 1, 2, none⟩) ∧ w'.frozen? ⟨w.heap.size + 1, 2, none⟩ = false)) := (fun w' h => by (have hc := h.cells; have hs := h.some; have hf := h.frozen; refine ⟨h, ?_⟩; (try simp only [World.size_alloc, World.size_setCell, size_drew, size_drewN] at hc hs hf); first | (simp (disch := omega) only [hc, hs, hf, cur_iff]; (try go_simp); done) | (simp (disch := first | omega | (simp; done)) only [hc, hs, hf, cur_iff]; (try go_simp); done) | (simp (maxDischargeDepth := 4) [hc, hs, hf, cur_iff, go_sem]; done) | (go_simp; done) | (simp (maxDischargeDepth := 4) [hc, hs, hf, cur_iff, go_sem]; go_simp))); go_region_held3 (fun w' => Reg (w.heap.size + 1) (W0) w' ∧ w'.cell? ⟨w.heap.size, 0, none⟩ = some (.slice A1 na qa) ∧ w'.cell? ⟨w.heap.size, 1, none⟩ = some (.slice B1 nb qb) ∧ w'.cell? ⟨w.heap.size, 2, none⟩ = some (.slice C1 nc qc) ∧ w'.cell? ⟨w.heap.size + 1, 0, none⟩ = some (cur w' ⟨w.heap.size + 1, 0, none⟩) ∧ w'.frozen? ⟨w.heap.size + 1, 0, none⟩ = false ∧ w'.cell? ⟨w.heap.size + 1, 1, none⟩ = some (cur w' ⟨w.heap.size + 1, 1, none⟩) ∧ w'.frozen? ⟨w.heap.size + 1, 1, none⟩ = false ∧ w'.cell? ⟨w.heap.size + 1, 2, none⟩ = some (cur w' ⟨w.heap.size + 1, 2, none⟩) ∧ w'.frozen? ⟨w.heap.size + 1, 2, none⟩ = false) (exact HS.out _ (by (repeat first | with_reducible exact Reg.refl _ _ | with_reducible exact (‹Reg _ _ _ ∧ _›).1 | (with_reducible refine Reg.setCell ?_ ?_ _; rotate_left; exact (by (simp; done))) | with_reducible refine Reg.alloc ?_ _ | with_reducible refine Reg.drew ?_ | (with_reducible apply Reg.call; rotate_left; with_reducible assumption)))) (first | (go_at_call 147; (with_reducible refine (HK1.out _ (Reg.out (‹Reg _ _ _ ∧ _›).1 (by (repeat with_reducible assumption)) (by omega))).mono ?_); rintro e w8 ⟨Ac, cac, rfl, hnc, hb⟩; have hbc := hb; (first | (with_reducible have hk := Nat.lt_of_lt_of_le (size_alloc_lt _ _) hb.size) | skip); (try simp only [World.size_alloc, World.size_setCell, size_drew, size_drewN] at hk); obtain ⟨hc, hf⟩ := bcell hb; have hs := hb.size; (try simp only [World.size_alloc, World.size_setCell, size_drew, size_drewN] at hs)) | (go_at_call 147; (with_reducible refine (HK2.out _ (Reg.out (‹Reg _ _ _ ∧ _›).1 (by (repeat with_reducible assumption)) (by omega))).mono ?_); rintro e w9 ⟨As, cas, rfl, hns, hb⟩; have hbs := hb; (first | (with_reducible have hk := Nat.lt_of_lt_of_le (size_alloc_lt _ _) hb.size) | (with_reducible have hk := Nat.lt_of_lt_of_le hk hb.size) | skip); (try simp only [World.size_alloc, World.size_setCell, size_drew, size_drewN] at hk); obtain ⟨hc, hf⟩ := bcell hb; have hs := hb.size; (try simp only [World.size_alloc, World.size_setCell, size_drew, size_drewN] at hs)))
  all_goals go_wp2_with fail
  all_goals (have zz1 := hbc.size; have zz2 := hbs.size; (try simp only [World.size_alloc, World.size_setCell, size_drew, size_drewN] at zz1 zz2))
  all_goals (have q1 := hnc.new; have q2 := hnc.lt; have q3 := hns.new; have q4 := hns.lt; (try simp only [World.size_alloc, World.size_setCell, size_drew, size_drewN] at q1 q2 q3 q4))
  all_goals (have hnc0 := hnc.mono (B' := w.heap.size) (by (try simp only [World.size_alloc, World.size_setCell, size_drew, size_drewN]); omega); have hns0 := hns.mono (B' := w.heap.size) (by (try simp only [World.size_alloc, World.size_setCell, size_drew, size_drewN]); omega))
  all_goals exact bodyPost_ret (resC3 Tryz.results108 _ _ _ _ _ _ rfl ((Reg.some (x := w.heap.size + 1) (W := W0) (by (repeat first | with_reducible exact Reg.refl _ _ | with_reducible refine Reg.alloc ?_ _ | with_reducible refine Reg.drew ?_ | (with_reducible apply Reg.call; rotate_left; with_reducible assumption))) (w.heap.size + 1) 0 (by omega)).trans (by rw [d0]; rfl)) ((Reg.some (x := w.heap.size + 1) (W := W0) (by (repeat first | with_reducible exact Reg.refl _ _ | with_reducible refine Reg.alloc ?_ _ | with_reducible refine Reg.drew ?_ | (with_reducible apply Reg.call; rotate_left; with_reducible assumption))) (w.heap.size + 1) 1 (by omega)).trans (by rw [d1]; rfl)) ((Reg.some (x := w.heap.size + 1) (W := W0) (by (repeat first | with_reducible exact Reg.refl _ _ | with_reducible refine Reg.alloc ?_ _ | with_reducible refine Reg.drew ?_ | (with_reducible apply Reg.call; rotate_left; with_reducible assumption))) (w.heap.size + 1) 2 (by omega)).trans (by rw [d2]; rfl))) rfl ⟨_, _, _, _, _, rfl, ⟨(by (repeat first | with_reducible assumption | (with_reducible refine NewI.setCell ?_ (fun a ha => (by have h9 := q1 a ha; dsimp only; omega)) _) | with_reducible refine NewI.alloc ?_ _ | (with_reducible apply NewI.below; rotate_left; with_reducible assumption))), (by (repeat first | with_reducible assumption | (with_reducible refine NewI.setCell ?_ (fun a ha => (by have h9 := q3 a ha; dsimp only; omega)) _) | with_reducible refine NewI.alloc ?_ _)), (by (try simp only [World.size_alloc, World.size_setCell, size_drew, size_drewN]); omega), by (simp; try omega), ⟨fun a ha => (by have h9 := q1 a ha; have h8 := q2 a ha; (try simp only [World.size_alloc, World.size_setCell, size_drew, size_drewN]); omega), fun a ha => (by have h9 := q3 a ha; have h8 := q4 a ha; (try simp only [World.size_alloc, World.size_setCell, size_drew, size_drewN]); omega)⟩, by (repeat first | (with_reducible exact ZeroL.new _ _ _ (by omega)) | (with_reducible refine ZeroL.setCell ?_ (by dsimp only; omega) _) | with_reducible refine ZeroL.drew ?_ | (with_reducible apply ZeroL.below; rotate_left; with_reducible assumption))⟩, Reg.out (x := w.heap.size + 1) (by (repeat with_reducible exact (‹Reg _ _ _ ∧ _›).1)) hB (by omega)⟩
end
end Go.Proofs.YthggkidiidnaoaaGreatDoor
