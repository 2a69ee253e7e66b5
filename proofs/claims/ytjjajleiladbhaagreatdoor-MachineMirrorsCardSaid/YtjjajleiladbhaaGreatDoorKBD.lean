import Derived.Test.YtjjajleiladbhaaGreatDoorKAH
import Derived.Test.YtjjajleiladbhaaGreatDoorKAO
import Derived.Test.YtjjajleiladbhaaGreatDoorRows
import Derived.KernelRfl
import Derived.Laws.StructEq
import Derived.Handy
section
/- Abstract walking: a struct's field, a list's piece, make with room, stores at a place of a made list. -/
namespace Go.Proofs.YtjjajleiladbhaaGreatDoor
set_option linter.unusedVariables false
set_option linter.unusedSimpArgs false
set_option autoImplicit false
open Go.RowKit

section
variable {P : Program} {e0 : Cfg} {U : Snaps} {l : Slots} {L : Boxes} {ops : Array Oper} {Q : Exit → Act → World → Prop} {rest : List Oper} {d : Nat} {v : Value}
variable {ty : TypeId} {pos : String} {af : Array Edge} {g : Option (Nat × Bool)} {dd : Option Nat}

/-- a drawn region of which only the boxes behind the first k are held -/
theorem ac_drawK {L0 : Boxes} {id : Nat} {os : List Oper} (k last : Nat) (hL : L.drop k = L0) (hm : P.follows .mixedOrders = true) (hok : lastOk os.toArray last = true) (h : AH P os.toArray Q U L0 last os.toArray.size (Array.replicate os.toArray.size false) e0 U l L) : AC P e0 U l L (.region id os.toArray true) Q :=
  fun a w hf hs => wp_region_any hm (wpAny_of_G _ _ _ _ (h hok (DrawnTo.start _ _) a _ hf hs.drew))
/-- the first box goes behind the next two -/
theorem aq_rot3 {x y z : Nat × Cont} {G : Boxes} {X : Act → World → Prop} (h : AQ e0 U l (y :: z :: x :: G) X) : AQ e0 U l (x :: y :: z :: G) X :=
  fun a w hf hs => h a w hf (hs.perm ((List.Perm.swap y x (z :: G)).trans (List.Perm.cons y (List.Perm.swap z x G))))
theorem run_equalIn_nilS (d : Nat) {t e n c : Nat} (h : P.underlying t = some (.slice e)) (w : World) : (Op.equalIn (d + 1) t (.slice none n c) (.slice none 0 0)).run P w = .ok true w := by simp [Op.equalIn, run_underlying h]
theorem run_equalIn_someS (d : Nat) {t e n c : Nat} {A : Addr} (h : P.underlying t = some (.slice e)) (w : World) : (Op.equalIn (d + 1) t (.slice (some A) n c) (.slice none 0 0)).run P w = .ok false w := by simp [Op.equalIn, run_underlying h]
theorem run_equal_nilS {t e n c : Nat} (h : P.underlying t = some (.slice e)) (w : World) : (Op.equal t (.slice none n c) (.slice none 0 0)).run P w = .ok true w := run_equalIn_nilS 9999 h w
theorem run_equal_someS {t e n c : Nat} {A : Addr} (h : P.underlying t = some (.slice e)) (w : World) : (Op.equal t (.slice (some A) n c) (.slice none 0 0)).run P w = .ok false w := run_equalIn_someS 9999 h w
theorem bin_eql_S (t : TypeId) (A : Option Addr) (n c : Nat) : binOp .eql t (.slice A n c) (.slice none 0 0) = (do pure (.bool (← Op.equal t (.slice A n c) (.slice none 0 0))) : Sem Value) := rfl
theorem q_eqlNil0 {xt yt e n c : Nat} {ox : Operand} (hx : E l ox = some (.slice none n c)) (hu : P.underlying xt = some (.slice e)) : Q1 P e0 U l L ⟨dd, .binOp .eql xt ox (.const (.slice none 0 0)) yt, ty, pos, af, g⟩ (.bool true) :=
  q_bin hx rfl (fun w => by simp [eqGuard]) (fun w => by rw [bin_eql_S]; simp [run_equal_nilS hu])
theorem q_eqlNil1 {xt yt e n c : Nat} {A : Addr} {ox : Operand} (hx : E l ox = some (.slice (some A) n c)) (hu : P.underlying xt = some (.slice e)) : Q1 P e0 U l L ⟨dd, .binOp .eql xt ox (.const (.slice none 0 0)) yt, ty, pos, af, g⟩ (.bool false) :=
  q_bin hx rfl (fun w => by simp [eqGuard]) (fun w => by rw [bin_eql_S]; simp [run_equal_someS hu])
theorem q_fieldV {xt f : Nat} {fs : Array Field} {fd : Field} {cs : Array Value} {ox : Operand} (hx : E l ox = some (.agg cs)) (hu : ∀ w, (underlying xt).run P w = .ok (.struct fs) w) (hff : fs[f]? = some fd) (hg : ∀ w, (isAgg fd.type).run P w = .ok false w) (hv : cs[fd.offset]? = some v) : Q1 P e0 U l L ⟨dd, .field xt ox f, ty, pos, af, g⟩ v := q_field (z := 0) hx hu hff hg hv
theorem q_piece {t e z b o lo hi len cap : Nat} {li hii : Int} {k k' : IntKind} {A : Option Addr} {ox oi oj : Operand} (o' : Nat) (hA : A = some ⟨b, o, none⟩) (hx : E l ox = some (.slice A len cap)) (hi1 : E l oi = some (.int k li)) (hi2 : E l oj = some (.int k' hii)) (h1 : li = (lo : Int)) (h2 : hii = (hi : Int)) {n : Nat} (hnn : hi - lo = n) (hlo : lo ≤ hi) (hcap : hi ≤ cap) (hlt : lo < cap) (hu : P.underlying t = some (.slice e)) (hz : ∀ w, (sizeOf e).run P w = .ok z w) (ho : o + lo * z = o') :
    Q1 P e0 U l L ⟨dd, .slice t ox (some oi) (some oj) none, ty, pos, af, g⟩ (.slice (some ⟨b, o', none⟩) n (cap - lo)) := by
  intro a w hf hs
  subst h1 h2 hA ho hnn
  have hel : P.elem t = e := by simp [Program.elem, hu]
  have hu' : P.underlying t = some (.slice (P.elem t)) := by rw [hel]; exact hu
  have hz' : (sizeOf (P.elem t)).run P w = .ok z w := by rw [hel]; exact hz w
  have hne : ¬ cap = lo := by omega
  have hr : (Instr.sliceAt t (.slice (some ⟨b, o, none⟩) len cap) (some (.int k (lo : Int))) (some (.int k' (hi : Int))) none).run P w = .ok (.slice (some ⟨b, o + lo * z, none⟩) (hi - lo) (cap - lo)) w := by
    rw [run_sliceAt_slice w t _ _ _ _ hu', run_slice_lh w t _ len cap hu' k k' (lo : Int) (hi : Int) (by omega) (by omega) (by omega), hz']
    simp [Result.andThen, sliced, hne, addr_add]
  simp [execOp, hf.ev hx, hf.ev hi1, hf.ev hi2, hr]
theorem IsT.piece {α : Type} {z : Nat} {enc : α → List Value} {w : World} {len b o : Nat} {zs : List α} (h : IsT z enc w (some ⟨b, o, none⟩) len zs) {lo n : Nat} (hl : lo + n ≤ len) : IsT z enc w (some ⟨b, o + lo * z, none⟩) n ((zs.drop lo).take n) := by
  refine ⟨by rw [List.length_take, List.length_drop, h.1]; omega, fun h0 => ?_⟩
  obtain ⟨b', o', e, h1, h2⟩ := h.2 (by omega)
  cases e
  refine ⟨_, _, rfl, h1, fun j x hx i v hv => ?_⟩
  have hj : j < n := by
    have := (List.getElem?_eq_some_iff.1 hx).1
    rw [List.length_take] at this; omega
  rw [List.getElem?_take_of_lt hj, List.getElem?_drop] at hx
  have := h2 (lo + j) x hx i v hv
  rw [Nat.add_mul] at this
  rw [← this]; congr 2; omega
/-- make with no items and room for n, of one cell each -/
theorem al_makeRoom {t e bytes n : Nat} {z : Value} {x : Int} {ol oc : Operand} (hl : E l ol = some (.int .i64 0)) (hc : E l oc = some (.int .i64 x)) (hx : x = (n : Int)) (hu : P.underlying t = some (.slice e)) (hinfo : (P.info? e).map (fun i => (i.zero, i.size, i.bytes)) = some (some z, 1, bytes)) (hz1 : z.cells = #[z]) (hm : n ≤ 1000000) (hb : bytes ≤ 10000)
    (hn : Nat.blt d e0.n = true) (hw : want ops l g = some true)
    (k : ∀ b, AL P ops Q e0 U ((d, .slice (some ⟨b, 0, none⟩) 0 n) :: l) ((b, .cells (List.replicate n z)) :: L) rest) :
    AL P ops Q e0 U l L (⟨some d, .makeSlice t ol oc, ty, pos, af, g⟩ :: rest) :=
  al_run2 (K := True) hw rfl hn (fun a w hf hs => by
    subst hx
    obtain ⟨i, hi, hzz, h1, rfl⟩ := info_split hinfo
    have hnb : i.bytes * n ≤ 10000 * 1000000 := Nat.mul_le_mul hb hm
    have hb' : (i.bytes : Int) * (n : Int) ≤ 281474976710656 := by
      have h : ((i.bytes * n : Nat) : Int) ≤ 281474976710656 := by omega
      rwa [Int.natCast_mul] at h
    have hr := run_make (P := P) w t e i z hu hi hzz .i64 .i64 0 (n : Int) (Int.le_refl _) (by omega) hb' (by omega)
    simp only [Int.toNat_zero, Int.toNat_natCast, h1, Nat.mul_one, hz1] at hr
    rw [made_one] at hr
    exact ⟨_, _, U, _, by simp [execOp, hf.ev hl, hf.ev hc, hr], hs.alloc _ e, k _⟩)
theorem SetAt.ofSet {α : Type} : ∀ {n : Nat} {x : α} {l : List α}, n < l.length → SetAt n x l (l.set n x)
  | 0, x, y :: l, _ => .z
  | n + 1, x, y :: l, h => .s (SetAt.ofSet (by simpa using h))
end
theorem Sta.newT2 {α : Type} {z n c N : Nat} {D : List Deferred} {enc : α → List Value} {U : Snaps} {L : Boxes} {w0 w u : World} {lo : Nat} {A : Option Addr} {zs : List α} (h : Sta ⟨N, D, w0, []⟩ U L w) (hu : (lo, u) ∈ U) (hN : NewT z enc lo u A n c zs) : NewT z enc w0.heap.size w A n c zs :=
  ⟨h.newT hu hN, fun b off e => Nat.le_trans (h.snap lo u hu).1 (hN.new b off e), hN.le⟩
end Go.Proofs.YtjjajleiladbhaaGreatDoor
end
section
/- Plain facts about mirrored machines (2.4, P2.3): a mirrored machine is valid, mirroring twice changes nothing, the flux at the mirrored place is the same. -/
namespace Go.Proofs.YtjjajleiladbhaaGreatDoor
set_option linter.unusedVariables false
set_option linter.unusedSimpArgs false
open Go.RowKit Go.Shelf

def mirCoil (c : CoilD) : CoilD := { c with z := -c.z }
def mirShell (s : ShellD) : ShellD := { s with z := -s.z }
def mirPoint (p : PointD) : PointD := { p with z := -p.z }
def mirSensor (s : SensorD) : SensorD := { s with z := -s.z }
def mirG (g : GridD) : GridD := { g with z := -(g.z + (g.nz - 1) * g.step) }
def mirM (M : MachD) : MachD := ⟨M.name, M.coils.map mirCoil, M.shells.map mirShell, M.limits.map mirPoint, mirG M.grid, M.sensors.map mirSensor⟩
/-- the cell that lies where cell k comes from -/
def sigma (g : GridD) (k : Nat) : Nat := ((g.nz - 1 - (k : Int) / g.nr) * g.nr + (k : Int) % g.nr).toNat
def turnL (g : GridD) (l : List Int) : List Int := (List.range l.length).map fun k => l[sigma g k]?.getD 0
def mirC (g : GridD) (C : CurD) : CurD := ⟨C.coils, C.shells, turnL g C.plasma⟩

def sumN (f : Nat → Int) : Nat → Int
  | 0 => 0
  | n + 1 => sumN f n + f n
theorem sumN_congr {f g : Nat → Int} : ∀ n : Nat, (∀ i, i < n → f i = g i) → sumN f n = sumN g n
  | 0, _ => rfl
  | n + 1, h => by simp only [sumN]; rw [sumN_congr n (fun i hi => h i (by omega)), h n (by omega)]
theorem sumN_add (f : Nat → Int) (m : Nat) : ∀ n : Nat, sumN f (m + n) = sumN f m + sumN (fun i => f (m + i)) n
  | 0 => by simp [sumN]
  | n + 1 => by
    rw [← Nat.add_assoc]; simp only [sumN]
    rw [sumN_add f m n]; omega
theorem sumN_rows (f : Nat → Int) (c : Nat) : ∀ a : Nat, sumN f (a * c) = sumN (fun i => sumN (fun j => f (i * c + j)) c) a
  | 0 => by simp [sumN]
  | a + 1 => by
    rw [Nat.add_mul, Nat.one_mul, sumN_add, sumN_rows f c a]; rfl
theorem sumN_front (f : Nat → Int) : ∀ n : Nat, sumN f (n + 1) = f 0 + sumN (fun i => f (i + 1)) n
  | 0 => by simp [sumN]
  | n + 1 => by
    rw [sumN, sumN_front f n]; simp only [sumN]; omega
theorem sumN_rev (f : Nat → Int) : ∀ n : Nat, sumN (fun i => f (n - 1 - i)) n = sumN f n
  | 0 => rfl
  | n + 1 => by
    rw [sumN_front]
    have e : sumN (fun i => f (n + 1 - 1 - (i + 1))) n = sumN (fun i => f (n - 1 - i)) n := sumN_congr n (fun i hi => by congr 1; omega)
    rw [e, sumN_rev f n]
    simp only [sumN]
    rw [show n + 1 - 1 - 0 = n by omega]; omega
theorem flux_range (p : Int × Int) (pl : Nat → Int × Int) (v : Nat → Int) : ∀ n : Nat, fluxP p ((List.range n).map fun j => (pl j, v j)) = sumN (fun j => infl p.1 p.2 (pl j).1 (pl j).2 * v j) n
  | 0 => rfl
  | n + 1 => by
    rw [List.range_succ, List.map_append, fluxP_append, flux_range p pl v n]
    simp [fluxP, sumN]

theorem sigma_at (g : GridD) (a b c d : Nat) (hc : g.nr = c) (hd : g.nz = d) (ha : a < d) (hb : b < c) : sigma g (a * c + b) = (d - 1 - a) * c + b := by
  unfold sigma
  rw [hc, hd]
  have h1 : ((a * c + b : Nat) : Int) / (c : Int) = a := by
    have : (a * c + b) / c = a := by
      rw [Nat.mul_comm, Nat.mul_add_div (by omega), Nat.div_eq_of_lt hb]; omega
    exact_mod_cast this
  have h2 : ((a * c + b : Nat) : Int) % (c : Int) = b := by
    have : (a * c + b) % c = b := by
      rw [Nat.mul_comm, Nat.mul_add_mod, Nat.mod_eq_of_lt hb]
    exact_mod_cast this
  rw [h1, h2]
  have h3 : ((d : Int) - 1 - a) = ((d - 1 - a : Nat) : Int) := by omega
  rw [h3]
  have h4 : ((d - 1 - a : Nat) : Int) * (c : Int) + (b : Int) = (((d - 1 - a) * c + b : Nat) : Int) := by push_cast; rfl
  rw [h4, Int.toNat_natCast]
theorem sum_sigma (g : GridD) (c d : Nat) (hc : g.nr = c) (hd : g.nz = d) (f : Nat → Int) : sumN (fun k => f (sigma g k)) (d * c) = sumN f (d * c) := by
  rw [sumN_rows, sumN_rows]
  rw [← sumN_rev (fun i => sumN (fun j => f (i * c + j)) c) d]
  refine sumN_congr d (fun i hi => ?_)
  exact sumN_congr c (fun j hj => by rw [sigma_at g i j c d hc hd hi hj])
theorem rowcol (k c d : Nat) (hk : k < d * c) : ∃ a b, a < d ∧ b < c ∧ k = a * c + b := by
  have hc : 0 < c := by
    rcases Nat.eq_zero_or_pos c with h | h
    · subst h; simp at hk
    · exact h
  refine ⟨k / c, k % c, ?_, Nat.mod_lt _ hc, ?_⟩
  · exact (Nat.div_lt_iff_lt_mul hc).2 hk
  · rw [Nat.mul_comm]; exact (Nat.div_add_mod k c).symm
theorem sigma_lt (g : GridD) (c d k : Nat) (hc : g.nr = c) (hd : g.nz = d) (hk : k < d * c) : sigma g k < d * c := by
  obtain ⟨a, b, ha, hb, rfl⟩ := rowcol k c d hk
  rw [sigma_at g a b c d hc hd ha hb]
  have : (d - 1 - a) * c + c ≤ d * c := by
    rw [← Nat.succ_mul]; exact Nat.mul_le_mul_right c (by omega)
  omega
theorem sigma_sigma (g : GridD) (c d k : Nat) (hc : g.nr = c) (hd : g.nz = d) (hk : k < d * c) : sigma g (sigma g k) = k := by
  obtain ⟨a, b, ha, hb, rfl⟩ := rowcol k c d hk
  rw [sigma_at g a b c d hc hd ha hb, sigma_at g _ b c d hc hd (by omega) hb]
  congr 2; omega
/-- the place of a cell in the mirrored grid -/
theorem cell_mir (g : GridD) (c d k : Nat) (hc : g.nr = c) (hd : g.nz = d) (hk : k < d * c) : cellR (mirG g) k = cellR g (sigma g k) ∧ cellZ (mirG g) k = -cellZ g (sigma g k) := by
  obtain ⟨a, b, ha, hb, rfl⟩ := rowcol k c d hk
  rw [sigma_at g a b c d hc hd ha hb]
  unfold cellR cellZ mirG
  simp only [hc, hd]
  have d1 : ∀ x : Nat, ((x * c + b : Nat) : Int) / (c : Int) = x := fun x => by
    have : (x * c + b) / c = x := by
      rw [Nat.mul_comm, Nat.mul_add_div (by omega), Nat.div_eq_of_lt hb]; omega
    exact_mod_cast this
  have d2 : ∀ x : Nat, ((x * c + b : Nat) : Int) % (c : Int) = b := fun x => by
    have : (x * c + b) % c = b := by
      rw [Nat.mul_comm, Nat.mul_add_mod, Nat.mod_eq_of_lt hb]
    exact_mod_cast this
  rw [d1, d2, d1, d2]
  refine ⟨rfl, ?_⟩
  have e : ((d - 1 - a : Nat) : Int) = (d : Int) - 1 - a := by omega
  rw [e]; simp only [Int.sub_mul, Int.one_mul]; omega

theorem infl_neg (a b c d : Int) : infl a (-b) c (-d) = infl a b c d := by
  have n : ∀ r z : Int, nearB r (-z) 1000 = nearB r z 1000 := fun r z => by
    apply Bool.eq_iff_iff.2; rw [near_iff, near_iff]; omega
  unfold infl
  rw [n, n, show -b - -d = -(b - d) by omega, Int.neg_mul_neg]
theorem zip_mir {α : Type} (r z : Int) (m : α → α) (f : α → Int × Int) (g : α → Int) (hf : ∀ c, f (m c) = ((f c).1, -(f c).2)) (hg : ∀ c, g (m c) = g c) : ∀ (l : List α) (a : List Int),
    fluxP (r, -z) (List.zipWith (fun c x => (f c, g c * x)) (l.map m) a) = fluxP (r, z) (List.zipWith (fun c x => (f c, g c * x)) l a)
  | [], a => by simp [fluxP]
  | c :: l, [] => by simp [fluxP]
  | c :: l, x :: a => by
    simp only [List.map_cons, List.zipWith_cons_cons, fluxP]
    rw [zip_mir r z m f g hf hg l a, hf, hg]; simp only
    rw [infl_neg]
theorem fine_nat {g : GridD} (h : g.Fine) : ∃ c d : Nat, g.nr = c ∧ g.nz = d ∧ g.nr * g.nz = ((d * c : Nat) : Int) := by
  obtain ⟨_, _, _, _, n0, n1, k0, k1, _, _⟩ := h
  refine ⟨g.nr.toNat, g.nz.toNat, by omega, by omega, ?_⟩
  push_cast
  rw [Int.toNat_of_nonneg (by omega), Int.toNat_of_nonneg (by omega), Int.mul_comm]
theorem turn_length (g : GridD) (l : List Int) : (turnL g l).length = l.length := by simp [turnL]
theorem turn_get (g : GridD) (l : List Int) (k : Nat) (hk : k < l.length) : (turnL g l)[k]?.getD 0 = l[sigma g k]?.getD 0 := by simp [turnL, hk]
theorem flux_mir (r z : Int) {M : MachD} {C : CurD} (h : Fit2 M C) : fluxP (r, -z) (srcM (mirM M) (mirC M.grid C)) = fluxP (r, z) (srcM M C) := by
  obtain ⟨c, d, hc, hd, hn⟩ := fine_nat (sound_of h.check).grid
  have hl : C.plasma.length = d * c := by have := h.plasma.1; omega
  unfold srcM srcL mirM mirC
  simp only [fluxP_append]
  rw [zip_mir r z mirCoil (fun c : CoilD => (c.r, c.z)) (fun c => c.turns) (fun _ => rfl) (fun _ => rfl)]
  have h2 := zip_mir r z mirShell (fun s : ShellD => (s.r, s.z)) (fun _ => 1) (fun _ => rfl) (fun _ => rfl) M.shells C.shells
  simp only [Int.one_mul] at h2
  rw [h2]
  congr 2
  rw [turn_length, hl]
  unfold cellSrc
  rw [flux_range, flux_range]
  rw [← sum_sigma M.grid c d hc hd (fun j => infl r z (cellR M.grid (j : Int)) (cellZ M.grid (j : Int)) * C.plasma[j]?.getD 0)]
  refine sumN_congr _ (fun k hk => ?_)
  simp only
  rw [(cell_mir M.grid c d k hc hd hk).1, (cell_mir M.grid c d k hc hd hk).2, infl_neg, turn_get _ _ _ (by omega)]
theorem eachGo_map {α : Type} {chk : α → List α → Int} {m : α → α} (h : ∀ x e, chk (m x) (e.map m) = chk x e) : ∀ (l pre : List α), eachGo chk (pre.map m) (l.map m) = eachGo chk pre l
  | [], pre => rfl
  | x :: l, pre => by
    simp only [List.map_cons, eachGo]
    rw [h]
    have ih := eachGo_map h l (pre ++ [x])
    rw [List.map_append] at ih
    rw [← ih]; rfl
theorem eachC_map {α : Type} {chk : α → List α → Int} {m : α → α} (h : ∀ x e, chk (m x) (e.map m) = chk x e) (most : Int) (l : List α) : eachC chk most (l.map m) = eachC chk most l := by
  unfold eachC
  rw [List.length_map]
  have := eachGo_map h l []
  rw [List.map_nil] at this
  rw [this]
theorem near_neg (r z f : Int) : nearB r (-z) f = nearB r z f := by
  apply Bool.eq_iff_iff.2; rw [near_iff, near_iff]; omega
theorem coilC_mir (x : CoilD) (e : List CoilD) : coilC (mirCoil x) (e.map mirCoil) = coilC x e := by
  unfold coilC
  simp only [mirCoil, near_neg, List.any_map, Function.comp_def]
  rfl
theorem shellC_mir (x : ShellD) (e : List ShellD) : shellC (mirShell x) (e.map mirShell) = shellC x e := by
  unfold shellC
  simp only [mirShell, near_neg]
theorem sensorC_mir (x : SensorD) (e : List SensorD) : sensorC (mirSensor x) (e.map mirSensor) = sensorC x e := by
  unfold sensorC
  simp only [mirSensor, near_neg, List.any_map, Function.comp_def]
  rfl
theorem limitC_mir (x : PointD) (e : List PointD) : limitC (mirPoint x) (e.map mirPoint) = limitC x e := by
  have ha : (e.map mirPoint).any (fun y => decide (y.r = (mirPoint x).r) && decide (y.z = (mirPoint x).z)) = e.any (fun y => decide (y.r = x.r) && decide (y.z = x.z)) := by
    rw [List.any_map]
    congr 1; funext y
    show (decide (y.r = x.r) && decide (-y.z = -x.z)) = _
    rw [show decide (-y.z = -x.z) = decide (y.z = x.z) from decide_eq_decide.2 (by omega)]
  unfold limitC
  rw [ha, show nearB (mirPoint x).r (mirPoint x).z 60 = nearB x.r x.z 60 from near_neg _ _ _]
theorem gridC_mir {g : GridD} (h : gridC g = 0) : gridC (mirG g) = 0 := by
  have hf := fine_grid h
  obtain ⟨c, d, hc, hd, hn⟩ := fine_nat hf
  have hg := cells_fine hf
  have hdc : 0 < d * c := by omega
  unfold gridC at h ⊢
  have e : (mirG g).nr = g.nr ∧ (mirG g).nz = g.nz ∧ (mirG g).step = g.step ∧ (mirG g).r = g.r := ⟨rfl, rfl, rfl, rfl⟩
  rw [e.1, e.2.1, e.2.2.1]
  split at h
  · split at h
    · rename_i h1 h2
      have h3 := rng_zero h
      rw [if_pos h1]
      have hk : d * c - 1 < d * c := by omega
      have cz := cell_mir g c d (d * c - 1) hc hd hk
      have e2 : g.nr * g.nz - 1 = ((d * c - 1 : Nat) : Int) := by omega
      have hcp : 0 < c := Nat.pos_of_mul_pos_left hdc
      have hdp : 0 < d := Nat.pos_of_mul_pos_right hdc
      have top : d * c - 1 = (d - 1) * c + (c - 1) := by
        have : (d - 1) * c + c = d * c := by rw [← Nat.succ_mul]; congr 1; omega
        omega
      have s1 : sigma g (d * c - 1) = c - 1 := by
        rw [top, sigma_at g (d - 1) (c - 1) c d hc hd (by omega) (by omega), show d - 1 - (d - 1) = 0 by omega]; omega
      have z1 : ((d * c - 1 : Nat) : Int) / (c : Int) = ((d - 1 : Nat) : Int) := by
        have : (d * c - 1) / c = d - 1 := by
          rw [top, Nat.mul_comm, Nat.mul_add_div hcp, Nat.div_eq_of_lt (by omega)]; omega
        exact_mod_cast this
      have m1 : ((d * c - 1 : Nat) : Int) % (c : Int) = ((c - 1 : Nat) : Int) := by
        have : (d * c - 1) % c = c - 1 := by
          rw [top, Nat.mul_comm, Nat.mul_add_mod, Nat.mod_eq_of_lt (by omega)]
        exact_mod_cast this
      have z2 : ((c - 1 : Nat) : Int) / (c : Int) = 0 := by
        have : (c - 1) / c = 0 := Nat.div_eq_of_lt (by omega)
        exact_mod_cast this
      have m2 : ((c - 1 : Nat) : Int) % (c : Int) = ((c - 1 : Nat) : Int) := by
        have : (c - 1) % c = c - 1 := Nat.mod_eq_of_lt (by omega)
        exact_mod_cast this
      rw [e2] at h3
      have n3 := near_iff.1 h3
      have n2 := near_iff.1 h2
      unfold cellR cellZ at n3
      rw [hc, z1, m1] at n3
      rw [e2, cz.1, cz.2, s1]
      have hz : (mirG g).z = -(g.z + (g.nz - 1) * g.step) := rfl
      have e3 : ((d - 1 : Nat) : Int) = g.nz - 1 := by omega
      rw [e3] at n3
      have k1 : nearB (mirG g).r (mirG g).z 60 = true := by
        rw [e.2.2.2, hz]
        exact near_iff.2 ⟨n2.1, by omega⟩
      rw [if_pos k1]
      have k2 : nearB (cellR g ((c - 1 : Nat) : Int)) (-cellZ g ((c - 1 : Nat) : Int)) 60 = true := by
        unfold cellR cellZ
        rw [hc, z2, m2]
        exact near_iff.2 ⟨n3.1, by omega⟩
      rw [k2]; rfl
    · simp at h
  · simp at h
theorem check_mir {M : MachD} (h : checkC M = 0) : checkC (mirM M) = 0 := by
  have hg := gridC_mir (grid_of h)
  have hgrid : gridC M.grid = 0 := grid_of h
  unfold checkC at h ⊢
  have e1 : eachC coilC 12 (mirM M).coils = eachC coilC 12 M.coils := eachC_map coilC_mir 12 M.coils
  have e2 : eachC shellC 16 (mirM M).shells = eachC shellC 16 M.shells := eachC_map shellC_mir 16 M.shells
  have e3 : limitsC (mirM M).limits = limitsC M.limits := by
    unfold limitsC
    rw [show (mirM M).limits = M.limits.map mirPoint from rfl, List.length_map, eachC_map limitC_mir 16 M.limits]
  have e4 : eachC sensorC 24 (mirM M).sensors = eachC sensorC 24 M.sensors := eachC_map sensorC_mir 24 M.sensors
  rw [e1, e2, e3, e4, show (mirM M).name = M.name from rfl, show (mirM M).grid = mirG M.grid from rfl, hg]
  rw [hgrid] at h
  exact h
theorem tot_sum (s : Int) : ∀ (l : List Int), (∀ x ∈ l, 0 ≤ x ∧ x ≤ 1000000) → 0 ≤ s → s + 1000000 * (l.length : Int) ≤ 1000000000000000 → tot s l = s + sumN (fun k => l[k]?.getD 0) l.length
  | [], _, _, _ => by simp [tot, sumN]
  | x :: l, h, h0, h1 => by
    have hx := h x (by simp)
    simp only [List.length_cons] at h1
    simp only [tot, List.length_cons]
    rw [IntWalk.wrap64_in _ (by omega), tot_sum _ l (fun y hy => h y (List.mem_cons_of_mem _ hy)) (by omega) (by omega), sumN_front]
    simp; omega
theorem tot_turn {g : GridD} (hf : g.Fine) {l : List Int} (hl : (l.length : Int) = g.nr * g.nz) (h : ∀ x ∈ l, 0 ≤ x ∧ x ≤ 1000000) : tot 0 (turnL g l) = tot 0 l := by
  obtain ⟨c, d, hc, hd, hn⟩ := fine_nat hf
  have hg := cells_fine hf
  have hl2 : l.length = d * c := by omega
  have ht : ∀ x ∈ turnL g l, 0 ≤ x ∧ x ≤ 1000000 := fun x hx => by
    obtain ⟨k, hk, rfl⟩ := List.mem_map.1 hx
    have hk1 : k < l.length := by simpa using hk
    have := sigma_lt g c d k hc hd (by omega)
    rw [List.getElem?_eq_getElem (show sigma g k < l.length by omega)]
    exact h _ (List.getElem_mem _)
  rw [tot_sum 0 _ ht (by omega) (by rw [turn_length]; omega), tot_sum 0 _ h (by omega) (by omega), turn_length, hl2]
  rw [← sum_sigma g c d hc hd (fun k => l[k]?.getD 0)]
  congr 1
  exact sumN_congr _ (fun k hk => turn_get g l k (by omega))
theorem fit_mir {M : MachD} {C : CurD} (h : Fit2 M C) : Fit2 (mirM M) (mirC M.grid C) := by
  have hf := (sound_of h.check).grid
  obtain ⟨c, d, hc, hd, hn⟩ := fine_nat hf
  have hl : C.plasma.length = d * c := by have := h.plasma.1; omega
  refine ⟨check_mir h.check, ⟨by rw [show (mirM M).coils = M.coils.map mirCoil from rfl, List.length_map]; exact h.coils.1, h.coils.2⟩, ⟨by rw [show (mirM M).shells = M.shells.map mirShell from rfl, List.length_map]; exact h.shells.1, h.shells.2⟩, ⟨?_, fun x hx => ?_⟩, ?_⟩
  · rw [show (mirC M.grid C).plasma = turnL M.grid C.plasma from rfl, turn_length]; exact h.plasma.1
  · obtain ⟨k, hk, rfl⟩ := List.mem_map.1 hx
    have hk1 : k < C.plasma.length := by simpa using hk
    have := sigma_lt M.grid c d k hc hd (by omega)
    rw [List.getElem?_eq_getElem (show sigma M.grid k < C.plasma.length by omega)]
    exact h.plasma.2 _ (List.getElem_mem _)
  · rw [show (mirC M.grid C).plasma = turnL M.grid C.plasma from rfl, tot_turn hf h.plasma.1 h.plasma.2]; exact h.total
theorem mirG_mirG (g : GridD) : mirG (mirG g) = g := by
  obtain ⟨r, z, nr, nz, step⟩ := g
  unfold mirG
  simp only [GridD.mk.injEq, true_and, and_true]
  omega
theorem map_two {α : Type} {m : α → α} (h : ∀ x, m (m x) = x) (l : List α) : (l.map m).map m = l := by
  rw [List.map_map]
  conv => rhs; rw [← List.map_id l]
  apply List.map_congr_left
  intro x _
  exact h x
theorem mirM_mirM (M : MachD) : mirM (mirM M) = M := by
  obtain ⟨n, c, s, l, g, q⟩ := M
  unfold mirM
  simp only
  rw [map_two (fun x => by simp [mirCoil]), map_two (fun x => by simp [mirShell]), map_two (fun x => by simp [mirPoint]), map_two (fun x => by simp [mirSensor]), mirG_mirG]
theorem mirC_mirC {M : MachD} {C : CurD} (h : Fit2 M C) : mirC (mirG M.grid) (mirC M.grid C) = C := by
  obtain ⟨c, d, hc, hd, hn⟩ := fine_nat (sound_of h.check).grid
  have hl : C.plasma.length = d * c := by have := h.plasma.1; omega
  obtain ⟨a, b, l⟩ := C
  unfold mirC
  simp only [CurD.mk.injEq, true_and]
  simp only at hl
  have hs : ∀ k, sigma (mirG M.grid) k = sigma M.grid k := fun k => rfl
  apply List.ext_getElem
  · rw [turn_length, turn_length]
  · intro k h1 h2
    have e1 : (turnL (mirG M.grid) (turnL M.grid l))[k]?.getD 0 = (turnL M.grid l)[sigma M.grid k]?.getD 0 := turn_get _ _ _ (by rw [turn_length]; exact h2)
    have := sigma_lt M.grid c d k hc hd (by omega)
    have e2 := turn_get M.grid l (sigma M.grid k) (by omega)
    rw [e2, sigma_sigma M.grid c d k hc hd (by omega), List.getElem?_eq_getElem h1, List.getElem?_eq_getElem h2] at e1
    exact e1
end Go.Proofs.YtjjajleiladbhaaGreatDoor
end
section
/- Package machine: Linked, CellAt, over this seat's translation (written by ax_mh.py). -/
namespace Go.Proofs.YtjjajleiladbhaaGreatDoor
set_option linter.unusedVariables false
set_option linter.unusedSimpArgs false
open Go.RowKit

end Go.Proofs.YtjjajleiladbhaaGreatDoor
end
