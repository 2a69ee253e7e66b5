import Derived.Test.YthggkidiidnaoaaGreatWAA
import Derived.Test.YthggkidiidnaoaaGreatWAB
import Derived.Test.YthggkidiidnaoaaGreatWAC
import Derived.Test.YthggkidiidnaoaaGreatWAF
import Derived.Test.YthggkidiidnaoaaGreatWAL
import Derived.Test.YthggkidiidnaoaaGreatWAN
import Derived.Test.YthggkidiidnaoaaGreatWAO
import Derived.Test.YthggkidiidnaoaaGreatWAT
import Derived.Test.YthggkidiidnaoaaGreatWAU
import Derived.Deep.RegionHeld3
import Derived.Deep.AppendLies
namespace Go.Proofs.YthggkidiidnaoaaGreat
set_option linter.unusedVariables false
set_option linter.unusedSimpArgs false
section
open Go.RowKit Go.Shelf
def fromL (M : MachD) (p : Int × Int) : List Int :=
 M.coils.map (fun c => c.turns * infl p.1 p.2 c.r c.z) ++ (M.shells.map (fun s => infl p.1 p.2 s.r s.z) ++ (List.range (M.grid.nr * M.grid.nz).toNat).map fun (j : Nat) => infl p.1 p.2 (cellR M.grid (j : Int)) (cellZ M.grid (j : Int)))
theorem from_coil {M : MachD} {p : Int × Int} {k : Nat} {c : CoilD} (h : M.coils[k]? = some c) : (fromL M p)[k]? = some (c.turns * infl p.1 p.2 c.r c.z) := by
 have hk := (List.getElem?_eq_some_iff.1 h).1
 unfold fromL
 rw [List.getElem?_append_left (by simpa using hk), List.getElem?_map, h]; rfl
theorem from_shell {M : MachD} {p : Int × Int} {k : Nat} {c : ShellD} (h : M.shells[k]? = some c) : (fromL M p)[M.coils.length + k]? = some (infl p.1 p.2 c.r c.z) := by
 have hk := (List.getElem?_eq_some_iff.1 h).1
 unfold fromL
 rw [List.getElem?_append_right (by simp), List.getElem?_append_left (by simp; omega)]
 simp [h]
theorem from_cell {M : MachD} {p : Int × Int} {k : Nat} (h : (k : Int) < M.grid.nr * M.grid.nz) : (fromL M p)[M.coils.length + (M.shells.length + k)]? = some (infl p.1 p.2 (cellR M.grid (k : Int)) (cellZ M.grid (k : Int))) := by
 unfold fromL
 rw [List.getElem?_append_right (by simp), List.getElem?_append_right (by simp)]
 have hk : k < (M.grid.nr * M.grid.nz).toNat := by omega
 simp [hk]
theorem from_length (M : MachD) (p : Int × Int) : (fromL M p).length = M.coils.length + (M.shells.length + (M.grid.nr * M.grid.nz).toNat) := by
 unfold fromL; simp
end
section
open Go.RowKit Go.Shelf
theorem run_push {P : Program} {w : World} (base : Nat) (t ty e : TypeId) (i : TypeInfo) (bytes : Nat) (ht : P.underlying t = some (.slice e)) (hi : P.info? e = some i) (hz : i.zero = some (.int .i64 0)) (hsize : i.size = 1) (hby : i.bytes = bytes)
  (v : Value) (n : Nat) (xs : List Value) (hown : w.ownsRow base e 1 v n xs) (A : Option Addr) (len cap : Nat) (zs : List Int) (hI : IsT 1 intCells w A len zs) (h63 : n + len ≤ maxLen) (hbytes : (n + len) * bytes ≤ 140737488355328) (hbase : base ≤ w.heap.size) :
  ∃ v' w', (Builtin.append_ #[t, t] ty #[v, .slice A len cap]).run P w = .ok v' w' ∧ w'.ownsRow base e 1 v' (n + len) (xs ++ zs.map (Value.int .i64)) ∧ w.grownBy w' v.ownBlock := by
 rcases Nat.eq_zero_or_pos len with h | h
 ·subst h
  obtain rfl : zs = [] := List.eq_nil_of_length_eq_zero hI.1
  refine ⟨v, w, ?_, by simpa using hown, World.grownBy.refl _ _⟩
  rcases hown.2 with ⟨rfl, rfl⟩ | ⟨g, c, cur, rfl, _, _, hnc, _⟩
  ·cases A <;> simp [Builtin.append_, run_underlying ht, sizeOf, typeInfo, hi, Builtin.lenOf, Builtin.firstCells, loadCells, loadCellsFrom, Result.andThen]
  ·cases A <;> simp [Builtin.append_, run_underlying ht, sizeOf, typeInfo, hi, Builtin.lenOf, Builtin.firstCells, hnc, storeCells, loadCells, loadCellsFrom, Result.andThen]
 ·obtain ⟨b, o, rfl, hb, hcl⟩ := hI.2 h
  have hA : ∀ j u, (zs.map (Value.int .i64))[j]? = some u → w.cell? ((⟨b, o, none⟩ : Addr).add j) = some u := fun j u hu => by
   rw [List.getElem?_map] at hu
   obtain ⟨x, hx, rfl⟩ := Option.map_eq_some_iff.1 hu
   have := hcl j x hx 0 _ rfl
   cases j with
   | zero => simpa [Addr.add] using this
   | succ k => simpa [Addr.add] using this
  have hC : ∀ u ∈ zs.map (Value.int .i64), u.oneCell' = true := fun u hu => by
   obtain ⟨x, -, rfl⟩ := List.mem_map.1 hu
   rfl
  obtain ⟨v', w', h1, h2, h3, -⟩ := run_append_own (P := P) w base t ty e i (.int .i64 0) 1 bytes ht hi hz hsize hby rfl de9 v n xs hown ⟨b, o, none⟩ len cap (zs.map (Value.int .i64)) (by simp [hI.1]) hA hC h63 hbytes hbase
  exact ⟨v', w', h1, h2, h3⟩
theorem list_push {ops : Array Oper} {rest : List Oper} {o : Oper} {a : Act} {Q : Exit → Act → World → Prop} {w : World} (B : Nat) (W0 : World) (hgd : o.guard = none) (s x : Operand)
  (ho : o.op = .call { callee := .builtin .append, args := #[s, x], argTypes := #[30, 30] })
  (v : Value) (n : Nat) (xs : List Int) (hs : a.eval s = v) (hown : w.ownsRow B 3 1 v n (xs.map (Value.int .i64))) (A : Option Addr) (len cap : Nat) (zs : List Int) (hx : a.eval x = .slice A len cap)
  (hI : IsT 1 intCells w A len zs) (m : Nat) (hm : n + len = m) (hn : n ≤ 100000) (hl : len ≤ 100000) (hB : B ≤ w.heap.size) (h0 : Below B W0 w)
  (hk : ∀ A' cap' w', w'.ownsRow B 3 1 (.slice A' m cap') m ((xs ++ zs).map (Value.int .i64)) → Below B W0 w' → w.heap.size ≤ w'.heap.size → wpList Tryz.prog ops Q rest (a.put o.dst (.slice A' m cap')) w') :
  wpList Tryz.prog ops Q (o :: rest) a w :=
 wpList_plain hgd fun K hK => by
  subst hm
  have hI0 : (Tryz.prog.info? 3).map (fun i => (i.zero, i.size, i.bytes)) = some (some (.int .i64 0), 1, 8) := by kernel_rfl
  obtain ⟨i0, hi, hz0, hz1, hz2⟩ := info_parts hI0
  obtain ⟨v', w', hr, h2, h3⟩ := run_push (P := Tryz.prog) (w := w) B 30 o.type 3 i0 8 Tryz.underlying30 hi hz0 hz1 hz2 v n (xs.map (Value.int .i64)) hown A len cap zs hI (by unfold maxLen; omega) om9 hB
  rw [← List.map_append] at h2
  obtain ⟨A', cap', rfl, -, -⟩ := isI_of_own h2
  unfold Oper.wp execOp
  simp only [ho, resolve, invoke, builtin, Sem.run_bind, Sem.run_pure, Result.andThen_ok, List.map_toArray, List.map_cons, List.map_nil, hs, hx, hr]
  exact hK _ _ (hk A' cap' w' h2 (below_grownB h0 hown h3 hB) h3.size)
set_option maxRecDepth 100000 in
set_option maxHeartbeats 8000000 in
theorem rall_any (A1 B1 C1 : Option Addr) (na qa nb qb nc qc : Nat) (z1 z2 z3 : List Int) (w : World) (h1 : IsT 1 intCells w A1 na z1) (h2 : IsT 1 intCells w B1 nb z2) (h3 : IsT 1 intCells w C1 nc z3) (l1 : na ≤ 1000) (l2 : nb ≤ 1000) (l3 : nc ≤ 1000) :
  Calls Tryz.prog 131 #[.agg #[.slice A1 na qa, .slice B1 nb qb, .slice C1 nc qc]] w fun e w' => ∃ (A' : Option Addr) (cap : Nat), e = .returned (.slice A' (na + nb + nc) cap) ∧ NewI w.heap.size w' A' (na + nb + nc) cap (z1 ++ z2 ++ z3) ∧ Below w.heap.size w w' := by
 have n1 := h1.1
 have n2 := h2.1
 have n3 := h3.1
 have HI1 := Lib.hid (fun W (hb : Below w.heap.size w W) => h1.below hb)
 have HI2 := Lib.hid (fun W (hb : Below w.heap.size w W) => h2.below hb)
 have HI3 := Lib.hid (fun W (hb : Below w.heap.size w W) => h3.below hb)
 clear h1 h2 h3
 go_enter Tryz.func131, Tryz.ntmps131
 go_upto_region 1 with (fail)
 have c0 : (w.alloc (.cells #[.slice A1 na qa, .slice B1 nb qb, .slice C1 nc qc] 32)).cell? ⟨w.heap.size, 0, none⟩ = some (.slice A1 na qa) := by go_simp
 have c1 : (w.alloc (.cells #[.slice A1 na qa, .slice B1 nb qb, .slice C1 nc qc] 32)).cell? ⟨w.heap.size, 1, none⟩ = some (.slice B1 nb qb) := by go_simp
 have c2 : (w.alloc (.cells #[.slice A1 na qa, .slice B1 nb qb, .slice C1 nc qc] 32)).cell? ⟨w.heap.size, 2, none⟩ = some (.slice C1 nc qc) := by go_simp
 have hB0 : Below w.heap.size w (w.alloc (.cells #[.slice A1 na qa, .slice B1 nb qb, .slice C1 nc qc] 32)) := by (repeat first | with_reducible exact Below.refl _ _ | (with_reducible refine Below.alloc ?_ ?_ _; rotate_left; exact om9))
 have hz : w.heap.size < (w.alloc (.cells #[.slice A1 na qa, .slice B1 nb qb, .slice C1 nc qc] 32)).heap.size := by simp
 obtain ⟨W0, hW0⟩ : ∃ W, (w.alloc (.cells #[.slice A1 na qa, .slice B1 nb qb, .slice C1 nc qc] 32)) = W := ⟨_, rfl⟩
 rw [hW0] at c0 c1 c2 hB0 hz ⊢
 clear hW0
 have HS : Hid (∀ w' : World, Below W0.heap.size W0 w' → (Below W0.heap.size W0 w' ∧ w'.cell? ⟨w.heap.size, 0, none⟩ = some (.slice A1 na qa) ∧ w'.cell? ⟨w.heap.size, 1, none⟩ = some (.slice B1 nb qb) ∧ w'.cell? ⟨w.heap.size, 2, none⟩ = some (.slice C1 nc qc))) := Lib.hid (fun w' h => ⟨h, (h.cell (p := ⟨w.heap.size, 0, none⟩) hz).trans c0, (h.cell (p := ⟨w.heap.size, 1, none⟩) hz).trans c1, (h.cell (p := ⟨w.heap.size, 2, none⟩) hz).trans c2⟩)
 have HB : Hid (∀ w' : World, Below W0.heap.size W0 w' → Below w.heap.size w w') := Lib.hid (fun w' h => hB0.trans (h.mono om9))
 go_wp2_with (at_builtin; first
  | (refine list_push W0.heap.size W0 rfl (Operand.tmp 4) (Operand.tmp 6) rfl _ 0 [] rfl (World.ownsRow_lit _ #[] 0 (by (try simp only [size_drew]); omega) de9 rfl) A1 na qa z1 rfl (HI1.out _ (HB.out _ bl9)) na om9 om9 om9 (by (try simp only [World.size_alloc, size_drew]); omega) bl9 ?_; intro A2 cap2 w1 hown1 hBa hsa; have g1 := (hBa.cell (p := ⟨w.heap.size, 1, none⟩) hz).trans c1; have g2 := (hBa.cell (p := ⟨w.heap.size, 2, none⟩) hz).trans c2; have sz1 := hBa.size; have HR1 := Lib.hid hown1; clear hown1)
  | (refine list_push W0.heap.size W0 rfl (Operand.tmp 8) (Operand.tmp 10) rfl (.slice A2 na cap2) na ([] ++ z1) rfl HR1.out B1 nb qb z2 rfl (HI2.out _ (HB.out _ ra9)) (na + nb) rfl om9 om9 (by (try simp only [World.size_alloc, size_drew]); omega) ra9 ?_; intro A3 cap3 w2 hown2 hBb hsb; have g3 := (hBb.cell (p := ⟨w.heap.size, 2, none⟩) hz).trans c2; have sz2 := hBb.size; have HR2 := Lib.hid hown2; clear hown2)
  | (refine list_push W0.heap.size W0 rfl (Operand.tmp 12) (Operand.tmp 14) rfl (.slice A3 (na + nb) cap3) (na + nb) ([] ++ z1 ++ z2) rfl HR2.out C1 nc qc z3 rfl (HI3.out _ (HB.out _ ra9)) (na + nb + nc) rfl om9 om9 (by (try simp only [World.size_alloc, size_drew]); omega) ra9 ?_; intro A4 cap4 w3 hown3 hBd hsd; have sz3 := hBd.size; have HR3 := Lib.hid hown3; clear hown3))
 have h3r := HR3.out
 simp only [List.nil_append] at h3r
 obtain ⟨A5, cap5, hv, hN⟩ := newI_of_row (by simp [n1, n2, n3, Nat.add_assoc]) h3r
 obtain ⟨rfl, rfl⟩ : A4 = A5 ∧ cap4 = cap5 := by simpa using hv
 go_ret
 exact ⟨A4, cap4, rfl, hN.mono om9, HB.out _ hBd⟩
end
section
open Go.RowKit Go.Shelf
structure RowL (b : Nat) (vs : List Value) (W : World) : Prop where
 lt : b < W.heap.size
 cell : ∀ (j : Nat) (v : Value), vs[j]? = some v → W.cell? ⟨b, j, none⟩ = some v
 mark : ∀ j, j < vs.length → W.frozen? ⟨b, j, none⟩ = false
theorem RowL.below {b : Nat} {vs : List Value} {W W' : World} (h : RowL b vs W) (hb : Below W.heap.size W W') : RowL b vs W' :=
 ⟨Nat.lt_of_lt_of_le h.lt hb.size, fun j v hv => (hb.cell (p := ⟨b, j, none⟩) h.lt).trans (h.cell j v hv), fun j hj => (hb.frozen (p := ⟨b, j, none⟩) h.lt).trans (h.mark j hj)⟩
theorem RowL.new (W : World) (cs : Array Value) (t : TypeId) : RowL W.heap.size cs.toList (W.alloc (.cells cs t)) := by
 refine ⟨by simp, fun j v hv => ?_, fun j hj => ?_⟩
 ·rw [Array.getElem?_toList] at hv
  unfold World.cell?
  rw [heap_alloc_new]
  simpa using hv
 ·unfold World.frozen?
  rw [heap_alloc_new]
  simp
theorem RowL.drew {b : Nat} {vs : List Value} {W : World} (h : RowL b vs W) : RowL b vs W.drew := h.below ((Below.refl _ _).drew)
theorem RowL.alloc {b : Nat} {vs : List Value} {W : World} (h : RowL b vs W) (o : Obj) : RowL b vs (W.alloc o) := h.below ((Below.refl _ _).alloc (Nat.le_refl _) o)
theorem RowL.far {b : Nat} {vs : List Value} {W : World} (h : RowL b vs W) {p : Addr} (hp : b ≠ p.block) (v : Value) : RowL b vs (W.setCell p v) :=
 ⟨by rw [World.size_setCell]; exact h.lt, fun j u hu => by
   rw [World.cell?_setCell_other _ _ _ _ (fun e => hp (by exact (congrArg Addr.block e).symm))]; exact h.cell j u hu, fun j hj => by rw [World.frozen?_setCell]; exact h.mark j hj⟩
theorem RowL.put {b : Nat} {vs : List Value} {W : World} (h : RowL b vs W) (k : Nat) (v : Value) (hk : k < vs.length) : RowL b (vs.set k v) (W.setCell ⟨b, k, none⟩ v) :=
 ⟨by rw [World.size_setCell]; exact h.lt, fun j u hu => by
   by_cases e : j = k
   ·subst e
    rw [List.getElem?_set_self hk] at hu
    obtain rfl := Option.some.inj hu
    exact World.cell?_setCell_same' _ _ _ (by rw [h.cell j _ (List.getElem?_eq_getElem hk)]; rfl)
   ·rw [World.cell?_setCell_other _ _ _ _ (fun h2 => by
     have := congrArg Addr.off h2
     dsimp only at this
     omega)]
    exact h.cell j u (by rwa [List.getElem?_set_ne (Ne.symm e)] at hu), fun j hj => by rw [World.frozen?_setCell]; exact h.mark j (by simpa using hj)⟩
theorem RowL.isI {b : Nat} {zs : List Int} {W : World} (h : RowL b (zs.map (Value.int .i64)) W) {n : Nat} (hn : zs.length = n) : IsT 1 intCells W (some ⟨b, 0, none⟩) n zs := by
 refine ⟨hn, fun _ => ⟨b, 0, rfl, h.lt, fun j x hx i v hv => ?_⟩⟩
 have hi : i = 0 := by
  have := (List.getElem?_eq_some_iff.1 hv).1
  simp [intCells] at this; omega
 subst hi
 have hv' : v = .int .i64 x := by simpa [intCells] using hv.symm
 subst hv'
 rw [show (0 + j * 1 + 0 : Nat) = j by omega]
 exact h.cell j _ (by rw [List.getElem?_map, hx]; rfl)
theorem ZeroL.row {b n : Nat} {W : World} (h : ZeroL b n W) : RowL b (List.replicate n (.int .i64 0)) W :=
 ⟨h.lt, fun j v hv => by
  have hj := (List.getElem?_eq_some_iff.1 hv).1
  rw [List.length_replicate] at hj
  rw [List.getElem?_replicate, if_pos hj] at hv
  obtain rfl := Option.some.inj hv
  exact h.cell j hj, fun j hj => h.mark j (by simpa using hj)⟩
theorem fill_set (T : List Value) (n j : Nat) (z v : Value) (hl : T.length = n) (hv : T[j]? = some v) : (T.take j ++ List.replicate (n - j) z).set j v = T.take (j + 1) ++ List.replicate (n - (j + 1)) z := by
 obtain ⟨hj, rfl⟩ := List.getElem?_eq_some_iff.1 hv
 have h1 : (T.take j).length = j := by rw [List.length_take]; omega
 rw [List.set_append_right _ _ om9, h1, Nat.sub_self, show n - j = (n - (j + 1)) + 1 by omega, List.replicate_succ, List.set_cons_zero, List.take_succ_eq_append_getElem hj, List.append_assoc]; rfl
end
section
open Go.RowKit Go.Shelf
def cutL (n most : Int) : Int := max (-most) (min n most)
def goalB (r z : Int) : Bool := wthn r (-60000) 60000 && wthn z (-60000) 60000
def memB (r z : Int) : Bool := wthn r (-1000000000) 1000000000 && wthn z (-1000000000) 1000000000
def safeB (s f : Int) : Bool := wthn s 0 1000000 && wthn f 0 1000000000000000
theorem kwithin_any (n a b : Int) (w : World) :
  Calls Tryz.prog 18 #[.int .i64 n, .int .i64 a, .int .i64 b] w fun e w' => e = .returned (.bool (wthn n a b)) ∧ w = w' := by
 go_enter Tryz.func18, Tryz.ntmps18
 go_wp2
 all_goals go_ret
 all_goals (simp [wthn]; try omega)
theorem rwithin7_any (n a b : Int) (w : World) :
  Calls Tryz.prog 22 #[.int .i64 n, .int .i64 a, .int .i64 b] w fun e w' => e = .returned (.bool (wthn n a b)) ∧ w = w' := by
 go_enter Tryz.func22, Tryz.ntmps22
 go_wp2
 all_goals go_ret
 all_goals (simp [wthn]; try omega)
theorem cut_any (n most : Int) (w : World) (h0 : 0 ≤ most) (h1 : most ≤ 1000000000000) :
  Calls Tryz.prog 35 #[.int .i64 n, .int .i64 most] w fun e w' => e = .returned (.int .i64 (cutL n most)) ∧ w = w' := by
 have v : IntKind.i64.wrap (-most) = -most := IntWalk.i64_in _ om9
 go_enter Tryz.func35, Tryz.ntmps35
 go_wp2
 all_goals go_ret
 all_goals (simp [cutL]; try omega)
theorem goal_any (x y : Int) (w : World) :
  Calls Tryz.prog 30 #[.agg #[.int .i64 x, .int .i64 y]] w (Ret (.bool (goalB x y)) w) := by
 have HE : Hid (goalB x y = (wthn x (-60000) 60000 && wthn y (-60000) 60000)) := Lib.hid rfl
 generalize goalB x y = G at *
 cases h : wthn x (-60000) 60000
 ·go_enter Tryz.func30, Tryz.ntmps30
  go_wp2_with (go_at_call 18; refine (kwithin_any _ _ _ _).mono ?_; rintro e w1 ⟨rfl, rfl⟩)
  go_ret
  exact ⟨by rw [HE.out, h]; simp, by (repeat first | with_reducible exact Below.refl _ _ | (with_reducible refine Below.alloc ?_ ?_ _; rotate_left; exact om9))⟩
 ·go_enter Tryz.func30, Tryz.ntmps30
  go_wp2_with (go_at_call 18; refine (kwithin_any _ _ _ _).mono ?_; rintro e w1 ⟨rfl, rfl⟩)
  go_ret
  exact ⟨by rw [HE.out, h]; simp, by (repeat first | with_reducible exact Below.refl _ _ | (with_reducible refine Below.alloc ?_ ?_ _; rotate_left; exact om9))⟩
theorem mem_any (x y : Int) (w : World) :
  Calls Tryz.prog 33 #[.agg #[.int .i64 x, .int .i64 y]] w (Ret (.bool (memB x y)) w) := by
 have HE : Hid (memB x y = (wthn x (-1000000000) 1000000000 && wthn y (-1000000000) 1000000000)) := Lib.hid rfl
 generalize memB x y = G at *
 cases h : wthn x (-1000000000) 1000000000
 ·go_enter Tryz.func33, Tryz.ntmps33
  go_wp2_with (go_at_call 18; refine (kwithin_any _ _ _ _).mono ?_; rintro e w1 ⟨rfl, rfl⟩)
  go_ret
  exact ⟨by rw [HE.out, h]; simp, by (repeat first | with_reducible exact Below.refl _ _ | (with_reducible refine Below.alloc ?_ ?_ _; rotate_left; exact om9))⟩
 ·go_enter Tryz.func33, Tryz.ntmps33
  go_wp2_with (go_at_call 18; refine (kwithin_any _ _ _ _).mono ?_; rintro e w1 ⟨rfl, rfl⟩)
  go_ret
  exact ⟨by rw [HE.out, h]; simp, by (repeat first | with_reducible exact Below.refl _ _ | (with_reducible refine Below.alloc ?_ ?_ _; rotate_left; exact om9))⟩
theorem safe_any (x y : Int) (w : World) :
  Calls Tryz.prog 17 #[.agg #[.int .i64 x, .int .i64 y]] w (Ret (.bool (safeB x y)) w) := by
 have HE : Hid (safeB x y = (wthn x 0 1000000 && wthn y 0 1000000000000000)) := Lib.hid rfl
 generalize safeB x y = G at *
 cases h : wthn x 0 1000000
 ·go_enter Tryz.func17, Tryz.ntmps17
  go_wp2_with (go_at_call 18; refine (kwithin_any _ _ _ _).mono ?_; rintro e w1 ⟨rfl, rfl⟩)
  go_ret
  exact ⟨by rw [HE.out, h]; simp, by (repeat first | with_reducible exact Below.refl _ _ | (with_reducible refine Below.alloc ?_ ?_ _; rotate_left; exact om9))⟩
 ·go_enter Tryz.func17, Tryz.ntmps17
  go_wp2_with (go_at_call 18; refine (kwithin_any _ _ _ _).mono ?_; rintro e w1 ⟨rfl, rfl⟩)
  go_ret
  exact ⟨by rw [HE.out, h]; simp, by (repeat first | with_reducible exact Below.refl _ _ | (with_reducible refine Below.alloc ?_ ?_ _; rotate_left; exact om9))⟩
theorem rsafe_any (x y : Int) (w : World) :
  Calls Tryz.prog 20 #[.agg #[.int .i64 x, .int .i64 y]] w (Ret (.bool (safeB x y)) w) := by
 have HE : Hid (safeB x y = (wthn x 0 1000000 && wthn y 0 1000000000000000)) := Lib.hid rfl
 generalize safeB x y = G at *
 cases h : wthn x 0 1000000
 ·go_enter Tryz.func20, Tryz.ntmps20
  go_wp2_with (go_at_call 22; refine (rwithin7_any _ _ _ _).mono ?_; rintro e w1 ⟨rfl, rfl⟩)
  go_ret
  exact ⟨by rw [HE.out, h]; simp, by (repeat first | with_reducible exact Below.refl _ _ | (with_reducible refine Below.alloc ?_ ?_ _; rotate_left; exact om9))⟩
 ·go_enter Tryz.func20, Tryz.ntmps20
  go_wp2_with (go_at_call 22; refine (rwithin7_any _ _ _ _).mono ?_; rintro e w1 ⟨rfl, rfl⟩)
  go_ret
  exact ⟨by rw [HE.out, h]; simp, by (repeat first | with_reducible exact Below.refl _ _ | (with_reducible refine Below.alloc ?_ ?_ _; rotate_left; exact om9))⟩
end
section
open Go.RowKit Go.Shelf
structure GainD where
 (r z sr sz : Int)
abbrev GainD.v (x : GainD) : Value := .agg #[.int .i64 x.r, .int .i64 x.z, .int .i64 x.sr, .int .i64 x.sz]
def GainD.cells (x : GainD) : List Value := [.int .i64 x.r, .int .i64 x.z, .int .i64 x.sr, .int .i64 x.sz]
structure QuantD where
 (word : ByteArray) (k : Nat)
abbrev QuantD.v (x : QuantD) : Value := .agg #[.string x.word, .func (.func x.k) #[] #[]]
def QuantD.cells (x : QuantD) : List Value := [.string x.word, .func (.func x.k) #[] #[]]
def strongB (x : GainD) : Bool := [x.r, x.z, x.sr, x.sz].any fun n => !wthn n (-1000000) 1000000
structure ShapeD where
 (a0 b0 a1 b1 a2 b2 a3 b3 a4 b4 a5 b5 a6 b6 a7 b7 : Int)
abbrev ShapeD.v (s : ShapeD) : Value := .agg #[.int .i64 s.a0, .int .i64 s.b0, .int .i64 s.a1, .int .i64 s.b1, .int .i64 s.a2, .int .i64 s.b2, .int .i64 s.a3, .int .i64 s.b3, .int .i64 s.a4, .int .i64 s.b4, .int .i64 s.a5, .int .i64 s.b5, .int .i64 s.a6, .int .i64 s.b6, .int .i64 s.a7, .int .i64 s.b7]
def okS (s : ShapeD) : Bool := (vld s.a0 s.b0 && (vld s.a1 s.b1 && (vld s.a2 s.b2 && (vld s.a3 s.b3 && (vld s.a4 s.b4 && (vld s.a5 s.b5 && (vld s.a6 s.b6 && vld s.a7 s.b7)))))))
def numB (l : List Int) : Bool := l.all fun x => wthn x (-1000000000000000) 1000000000000000
end
end Go.Proofs.YthggkidiidnaoaaGreat
