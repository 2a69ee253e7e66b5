import Derived.Test.YtkhahbnagbjbiaaGreatLBM
section
/- Abstract walking: a drawn region that fills several own boxes from values known before (x, y, z := a.X, a.Y, a.Z), in whatever order. -/
namespace Go.Proofs.YtkhahbnagbjbiaaGreat
set_option linter.unusedVariables false
set_option linter.unusedSimpArgs false
set_option autoImplicit false
open Go.RowKit

/-- a box that is made by operation ia, known in slot t, empty (z), and filled (f) by operation ib -/
structure Chn where
  (ia ib t : Nat) (z f : List Value)
abbrev Ph := Option (Nat × Bool)
def Chn.box (c : Chn) : Ph → Boxes
  | none => []
  | some (b, false) => [(b, .cells c.z)]
  | some (b, true) => [(b, .cells c.f)]
abbrev Phs := List (Chn × Ph)
def Apt (c d : Chn) : Prop := c.ia ≠ d.ia ∧ c.ia ≠ d.ib ∧ c.ib ≠ d.ia ∧ c.ib ≠ d.ib ∧ c.t ≠ d.t
theorem Apt.symm {c d : Chn} (h : Apt c d) : Apt d c := ⟨h.1.symm, h.2.2.1.symm, h.2.1.symm, h.2.2.2.1.symm, h.2.2.2.2.symm⟩

section
variable {P : Program} {e0 : Cfg} {U : Snaps} {ops : Array Oper} {Q : Exit → Act → World → Prop} {l0 : Slots} {L0 : Boxes}
/-- operations wait for nothing but what is listed and the box's making -/
def waits (ops : Array Oper) (listed : Array Bool) (j : Nat) (k : Option Nat) : Bool := match ops[j]? with
  | some o => o.after.all fun e => !Region.binds .any e || listed.getD e.on false || k == some e.on
  | none => false
structure Lis (ops : Array Oper) (base listed : Array Bool) (s : Phs) : Prop where
  size : listed.size = ops.size
  base : ∀ j, base.getD j false = true → listed.getD j false = true
  ch : ∀ x ∈ s, listed.getD x.1.ia false = x.2.isSome ∧ listed.getD x.1.ib false = (match x.2 with | some (_, true) => true | _ => false)
  rest : ∀ j, j < ops.size → (∀ x ∈ s, j ≠ x.1.ia ∧ j ≠ x.1.ib) → listed.getD j false = true
theorem getD_put {listed : Array Bool} {i j : Nat} : (listed.setIfInBounds i true).getD j false = if i = j ∧ i < listed.size then true else listed.getD j false := by
  simp only [Array.getD_eq_getD_getElem?, Array.getElem?_setIfInBounds]
  by_cases h : i = j
  · subst h
    by_cases g : i < listed.size
    · simp [g]
    · simp [g]
  · simp [h]
theorem Lis.put {base listed : Array Bool} {S1 S2 : Phs} {c : Chn} {p q : Ph} {i : Nat} (h : Lis ops base listed (S1 ++ (c, p) :: S2)) (hi : i < ops.size) (hap : ∀ x, x ∈ S1 ∨ x ∈ S2 → Apt c x.1) (hne : c.ia ≠ c.ib)
    (hq : (i = c.ia ∧ p = none ∧ ∃ b, q = some (b, false)) ∨ (i = c.ib ∧ ∃ b, p = some (b, false) ∧ q = some (b, true))) : Lis ops base (listed.setIfInBounds i true) (S1 ++ (c, q) :: S2) := by
  have hsz := h.size
  have mem : ∀ x, x ∈ S1 ∨ x ∈ S2 → x ∈ S1 ++ (c, p) :: S2 := fun x hx => by simp only [List.mem_append, List.mem_cons]; rcases hx with g | g <;> simp [g]
  refine ⟨by simp [hsz], fun j hj => by rw [getD_put]; split; rfl; exact h.base j hj, fun x hx => ?_, fun j hj hall => ?_⟩
  · have hx' : x = (c, q) ∨ (x ∈ S1 ∨ x ∈ S2) := by simp only [List.mem_append, List.mem_cons] at hx; rcases hx with g | g | g <;> simp [g]
    rcases hx' with rfl | hx'
    · have hc := h.ch (c, p) (by simp)
      simp only at hc ⊢
      rcases hq with ⟨rfl, rfl, b, rfl⟩ | ⟨rfl, b, rfl, rfl⟩
      · rw [getD_put, getD_put, if_pos ⟨rfl, by omega⟩, if_neg (fun g => hne g.1)]
        exact ⟨rfl, hc.2⟩
      · rw [getD_put, getD_put, if_neg (fun g => hne g.1.symm), if_pos ⟨rfl, by omega⟩]
        exact ⟨hc.1, rfl⟩
    · have ha := hap x hx'
      have hc := h.ch x (mem x hx')
      rw [getD_put, getD_put]
      rcases hq with ⟨rfl, -, -⟩ | ⟨rfl, -, -⟩
      · rw [if_neg (fun g => ha.1 g.1), if_neg (fun g => ha.2.1 g.1)]; exact hc
      · rw [if_neg (fun g => ha.2.2.1 g.1), if_neg (fun g => ha.2.2.2.1 g.1)]; exact hc
  · rw [getD_put]
    split
    · rfl
    · refine h.rest j hj fun x hx => ?_
      have hx' : x = (c, p) ∨ (x ∈ S1 ∨ x ∈ S2) := by simp only [List.mem_append, List.mem_cons] at hx; rcases hx with g | g | g <;> simp [g]
      rcases hx' with rfl | hx'
      · exact hall (c, q) (by simp)
      · exact hall x (by simp only [List.mem_append, List.mem_cons]; rcases hx' with g | g <;> simp [g])
theorem q_uptoM {t e z len cap hi mx : Nat} {hii mxi : Int} {k k' : IntKind} {A : Option Addr} {ox oj om : Operand} {ty : TypeId} {pos : String} {af : Array Edge} {g : Option (Nat × Bool)} {dd : Option Nat} {l : Slots} {L : Boxes} (hx : E l ox = some (.slice A len cap)) (hi2 : E l oj = some (.int k hii)) (hm2 : E l om = some (.int k' mxi)) (h2 : hii = (hi : Int)) (h3 : mxi = (mx : Int)) (hle : hi ≤ mx) (hcap : mx ≤ cap) (hu : P.underlying t = some (.slice e)) (hz : ∀ w, (sizeOf e).run P w = .ok z w) :
    Q1 P e0 U l L ⟨dd, .slice t ox none (some oj) (some om), ty, pos, af, g⟩ (.slice A hi mx) := by
  intro a w hf hs
  subst h2 h3
  have hru : ∀ w, (underlying t).run P w = .ok (.slice e) w := fun w => run_underlying hu w
  simp only [execOp, hf.ev hx, Option.map_some, hf.ev hi2, hf.ev hm2, Option.map_none]
  simp [Instr.sliceAt, Instr.slice, hru, Instr.sliceBounds, Instr.sliceBound, asIntOf, hcap, hle, hz]
  cases A <;> simp [Addr.add]
theorem q_fromA {t e z b o len cap lo : Nat} {ii : Int} {k : IntKind} {A : Option Addr} {ox oi : Operand} {ty : TypeId} {pos : String} {af : Array Edge} {g : Option (Nat × Bool)} {dd : Option Nat} {l : Slots} {L : Boxes} (hA : A = some ⟨b, o, none⟩) (hx : E l ox = some (.slice A len cap)) (hi : E l oi = some (.int k ii)) (hii : ii = (lo : Int)) (hlo : lo ≤ len) (hcap : len ≤ cap) (hlt : lo < cap) (hu : P.underlying t = some (.slice e)) (hz : ∀ w, (sizeOf e).run P w = .ok z w) :
    Q1 P e0 U l L ⟨dd, .slice t ox (some oi) none none, ty, pos, af, g⟩ (.slice (some ⟨b, o + lo * z, none⟩) (len - lo) (cap - lo)) := by
  subst hA
  exact q_fromS hx hi hii hlo hcap hu hz (if_neg (by omega))
theorem sub_get {α : Type} {l : List α} {i n j : Nat} {v : α} (h : ((l.drop i).take n)[j]? = some v) : l[i + j]? = some v := by
  rw [List.getElem?_take] at h
  split at h
  · rwa [List.getElem?_drop] at h
  · cases h
theorem IsT.drop {α : Type} {n : Nat} {enc : α → List Value} {w : World} {b o len : Nat} {zs : List α} (h : IsT n enc w (some ⟨b, o, none⟩) len zs) (k : Nat) : IsT n enc w (some ⟨b, o + k * n, none⟩) (len - k) (zs.drop k) :=
  ⟨by rw [List.length_drop, h.1], fun h0 => by
    obtain ⟨b', o', e, h1, h2⟩ := h.2 (by omega)
    cases e
    refine ⟨b, o + k * n, rfl, h1, fun j x hx i v hv => ?_⟩
    rw [List.getElem?_drop] at hx
    have := h2 (k + j) x hx i v hv
    rwa [Nat.add_mul, ← Nat.add_assoc] at this⟩
end

end Go.Proofs.YtkhahbnagbjbiaaGreat
end
