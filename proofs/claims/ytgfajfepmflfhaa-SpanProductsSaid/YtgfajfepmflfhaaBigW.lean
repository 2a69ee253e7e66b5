/- The specification's whole numbers of any length: two rows of numbers that grow by append, over this seat's translation. -/
import Derived.Test.YtgfajfepmflfhaaBigK
import Derived.Test.YtgfajfepmflfhaaBigHO
import Derived.Deep.AppendLies
namespace Go.Proofs.Ytgfajfepmflfhaa
set_option linter.unusedVariables false
set_option linter.unusedSimpArgs false
open Go.RowKit

/-- A number whose digits lie in none of the named blocks. -/
def BigX (w : World) (ex : List (Option Nat)) (v : Value) (z : Int) : Prop :=
  ∃ (A : Option Addr) (k c : Nat) (P : List Int), v = .agg #[.bool (decide (z < 0)), .slice A k c] ∧ IsI w 0 A k P ∧ (k ≤ c ∧ k ≤ 64 ∧ Canon P ∧ val P = max z (-z)) ∧ (0 < k → ∀ b o, A = some ⟨b, o, none⟩ → some b ∉ ex)
theorem BigX.big {w : World} {ex : List (Option Nat)} {v : Value} {z : Int} (h : BigX w ex v z) : BigV w v z := by
  obtain ⟨A, k, c, P, e, h1, h2, h3⟩ := h
  exact ⟨A, k, c, P, e, h1, h2⟩
theorem BigX.grown {w w' : World} {ex ex' : List (Option Nat)} {row : Option Nat} {v : Value} {z : Int} (h : BigX w ex v z) (hg : w.grownBy w' row) (hr : row ∈ ex ∨ row = none) (hx : ∀ b, some b ∈ ex' → some b ∈ ex ∨ w.heap.size ≤ b) : BigX w' ex' v z := by
  obtain ⟨A, k, c, P, e, h1, h2, h3⟩ := h
  refine ⟨A, k, c, P, e, ⟨h1.1, fun hk => ?_⟩, h2, fun hk b o hA hm => ?_⟩
  · obtain ⟨b, o, rfl, g0, g1, g2⟩ := h1.2 hk
    refine ⟨b, o, rfl, g0, Nat.lt_of_lt_of_le g1 hg.size, fun j hj => ?_⟩
    rw [hg.cell_far ⟨b, o + j, none⟩ g1 (fun e => by
      rcases hr with hr | hr
      · exact h3 hk b o rfl (by rw [← e] at hr; exact hr)
      · rw [hr] at e; cases e)]
    exact g2 j hj
  · obtain ⟨b', o', e', g0, g1, g2⟩ := h1.2 hk
    rw [hA] at e'
    injection e' with e'
    injection e' with e1 e2
    subst e1
    rcases hx b hm with h4 | h4
    · exact h3 hk b o hA h4
    · omega
theorem BigB.apart {w : World} {base : Nat} {v : Value} {z : Int} {ex : List (Option Nat)} (h : BigB w base v z) (hx : ∀ b, some b ∈ ex → b < base) : BigX w ex v z := by
  obtain ⟨A, k, c, P, e, h1, h2⟩ := h
  refine ⟨A, k, c, P, e, h1.mono (Nat.zero_le _), h2, fun hk b o hA hm => ?_⟩
  obtain ⟨b', o', e', g0, g1, g2⟩ := h1.2 hk
  rw [hA] at e'
  injection e' with e'
  injection e' with e1 e2
  have := hx b hm
  omega

/-- A row of numbers, of the call's own. -/
def RowX (w : World) (base : Nat) (ex : List (Option Nat)) (v : Value) (zs : List Int) : Prop :=
  ∃ cs : List Value, w.ownsRow base 41 2 v zs.length cs ∧ ∀ j, j < zs.length → ∃ x y, cs[j * 2]? = some x ∧ cs[j * 2 + 1]? = some y ∧ BigX w ex (.agg #[x, y]) (zs.getD j 0)
theorem RowX.grown {w w' : World} {base : Nat} {ex ex' : List (Option Nat)} {row : Option Nat} {v : Value} {zs : List Int} (h : RowX w base ex v zs) (hg : w.grownBy w' row) (hne : v.ownBlock = none ∨ v.ownBlock ≠ row) (hr : row ∈ ex ∨ row = none) (hx : ∀ b, some b ∈ ex' → some b ∈ ex ∨ w.heap.size ≤ b) : RowX w' base ex' v zs := by
  obtain ⟨cs, h1, h2⟩ := h
  refine ⟨cs, h1.kept hg hne, fun j hj => ?_⟩
  obtain ⟨x, y, e1, e2, e3⟩ := h2 j hj
  exact ⟨x, y, e1, e2, e3.grown hg hr hx⟩
theorem RowX.bigs {w : World} {base : Nat} {ex : List (Option Nat)} {v : Value} {zs : List Int} (h : RowX w base ex v zs) (hz : 0 < zs.length) : ∃ g cap, v = .slice (some ⟨g, 0, none⟩) zs.length cap ∧ g < w.heap.size ∧ Bigs w g 0 zs := by
  obtain ⟨cs, h1, h2⟩ := h
  obtain ⟨g, cap, rfl, _, hg⟩ := h1.form hz
  refine ⟨g, cap, rfl, hg, fun j hj => ?_⟩
  obtain ⟨x, y, e1, e2, e3⟩ := h2 j hj
  refine ⟨x, y, ?_, ?_, e3.big⟩
  · rw [Nat.zero_add, h1.cellAt (j * 2) (by omega)]; exact e1
  · rw [Nat.zero_add, h1.cellAt (j * 2 + 1) (by omega)]; exact e2

/-- Both rows that over fills. -/
structure OW (w wr : World) (dv uv : Value) (ds us : List Int) : Prop where
  rd : RowX wr w.heap.size [dv.ownBlock, uv.ownBlock] dv ds
  ru : RowX wr w.heap.size [dv.ownBlock, uv.ownBlock] uv us
  ne : dv.ownBlock = none ∨ uv.ownBlock = none ∨ dv.ownBlock ≠ uv.ownBlock
  hB : Below w.heap.size w wr
theorem OW.start (w : World) : OW w w (.slice none 0 0) (.slice none 0 0) [] [] :=
  ⟨⟨[], ⟨rfl, .inl ⟨rfl, rfl⟩⟩, fun j hj => absurd hj (by simp)⟩, ⟨[], ⟨rfl, .inl ⟨rfl, rfl⟩⟩, fun j hj => absurd hj (by simp)⟩, .inl rfl, Below.refl _ _⟩
theorem OW.swap {w wr : World} {dv uv : Value} {ds us : List Int} (h : OW w wr dv uv ds us) : OW w wr uv dv us ds :=
  ⟨h.ru.grown (row := none) ⟨rfl, rfl, rfl, Nat.le_refl _, fun _ _ _ => rfl⟩ (by cases uv.ownBlock <;> simp) (.inr rfl) (fun b hb => .inl (by simpa [or_comm] using hb)),
   h.rd.grown (row := none) ⟨rfl, rfl, rfl, Nat.le_refl _, fun _ _ _ => rfl⟩ (by cases dv.ownBlock <;> simp) (.inr rfl) (fun b hb => .inl (by simpa [or_comm] using hb)),
   (by rcases h.ne with h | h | h; exact .inr (.inl h); exact .inl h; exact .inr (.inr (Ne.symm h))), h.hB⟩
theorem OW.call {w wr w1 : World} {dv uv : Value} {ds us : List Int} (h : OW w wr dv uv ds us) (hb : Below wr.heap.size wr w1) : OW w w1 dv uv ds us := by
  have hg : wr.grownBy w1 none := ⟨hb.os, hb.tape, hb.output, hb.size, fun k hk _ => hb.block k hk⟩
  exact ⟨h.rd.grown hg (by cases dv.ownBlock <;> simp) (.inr rfl) (fun b hb => .inl hb), h.ru.grown hg (by cases uv.ownBlock <;> simp) (.inr rfl) (fun b hb => .inl hb), h.ne, h.hB.trans (hb.mono h.hB.size)⟩
theorem OW.rows {w wr : World} {dv uv : Value} {ds us : List Int} (h : OW w wr dv uv ds us) : ∀ b, some b ∈ [dv.ownBlock, uv.ownBlock] → b < wr.heap.size := by
  intro b hb
  obtain ⟨cs, h1, _⟩ := h.rd
  obtain ⟨cs', h2, _⟩ := h.ru
  simp at hb
  rcases hb with hb | hb
  · exact (h1.lt b hb.symm).2
  · exact (h2.lt b hb.symm).2

/-- append of one number to the first row, as a step of a region. -/
theorem over_stepD {ops : Array Oper} {o : Oper} {a : Act} {K : Act → World → Prop} {Q : Exit → Act → World → Prop} {E : Prop} {w : World} (W : World) (hgd : o.guard = none) (s x : Operand)
    (ho : o.op = .call { callee := .builtin .append, args := #[s, x], argTypes := #[46, 46] })
    (dv uv : Value) (ds us : List Int) (h : OW w W dv uv ds us) (hs : a.eval s = dv) (g0 : Nat) (n0 : Bool) (A0 : Option Addr) (k0 c0 : Nat) (z : Int) (hx : a.eval x = .slice (some ⟨g0, 0, none⟩) 1 1)
    (hblk : W.heap[g0]? = some (.cells #[.bool n0, .slice A0 k0 c0] 41 (0, 0))) (hz : BigX W [dv.ownBlock, uv.ownBlock] (.agg #[.bool n0, .slice A0 k0 c0]) z) (hn : ds.length ≤ 8)
    (hk : ∀ (g cap : Nat) w', OW w w' (.slice (some ⟨g, 0, none⟩) (ds.length + 1) cap) uv (ds ++ [z]) us → W.heap.size ≤ w'.heap.size → K (a.put o.dst (.slice (some ⟨g, 0, none⟩) (ds.length + 1) cap)) w') :
    if Region.wanted o (yielded ops a.tmps) = true then Oper.wp Try.prog o a W K Q else E := by
  have hI0 : (Try.prog.info? 41).map (fun i => (i.zero, i.size, i.bytes)) = some (some (.agg #[.bool false, .slice none 0 0]), 2, 32) := by kernel_rfl
  obtain ⟨i0, hi, hz0, hz1, hz2⟩ := info_parts hI0
  obtain ⟨cs, h1, h2⟩ := h.rd
  have hlt := h1.lt
  have hl : cs.length = ds.length * 2 := h1.1
  refine step_append_lies W hgd s x 46 ho w.heap.size 41 i0 _ 2 32 Try.underlying46 hi hz0 hz1 hz2 rfl (by decide) dv ds.length cs hs h1 ⟨g0, 0, none⟩ 1 1 [.bool n0, .slice A0 k0 c0] hx rfl (World.news_of_block (cs := #[.bool n0, .slice A0 k0 c0]) hblk) (by simp [Value.oneCell']) (by decide) (by unfold maxLen; omega) (by omega) h.hB.size W.heap.size rfl (fun g cap w' hown hgrow hat hlt' => ?_)
  have hmem : ∀ b, some b ∈ [(Value.slice (some ⟨g, 0, none⟩) (ds.length + 1) cap).ownBlock, uv.ownBlock] → some b ∈ [dv.ownBlock, uv.ownBlock] ∨ W.heap.size ≤ b := by
    intro b hb
    rcases List.mem_cons.1 hb with hb | hb
    · have e : b = g := by simpa [Value.ownBlock] using hb
      subst e
      rcases hat with h3 | h3
      · exact .inl (by rw [h3]; exact List.mem_cons_self ..)
      · exact .inr (by omega)
    · exact .inl (List.mem_cons_of_mem _ hb)
  refine hk g cap w' ⟨⟨cs ++ [.bool n0, .slice A0 k0 c0], by rw [List.length_append]; exact hown, fun j hj => ?_⟩, ?_, ?_, ?_⟩ hgrow.size
  · rw [List.length_append, List.length_singleton] at hj
    by_cases hjd : j < ds.length
    · obtain ⟨x, y, e1, e2, e3⟩ := h2 j hjd
      refine ⟨x, y, by rw [List.getElem?_append_left (by omega)]; exact e1, by rw [List.getElem?_append_left (by omega)]; exact e2, ?_⟩
      have e4 : (ds ++ [z]).getD j 0 = ds.getD j 0 := by simp [List.getD, List.getElem?_append_left hjd]
      rw [e4]
      exact e3.grown hgrow (.inl (by simp)) hmem
    · obtain rfl : j = ds.length := by omega
      refine ⟨.bool n0, .slice A0 k0 c0, by rw [List.getElem?_append_right (by omega), hl, Nat.sub_self]; rfl, by rw [List.getElem?_append_right (by omega), hl, show ds.length * 2 + 1 - ds.length * 2 = 1 by omega]; rfl, ?_⟩
      have e4 : (ds ++ [z]).getD ds.length 0 = z := by simp [List.getD]
      rw [e4]
      exact hz.grown hgrow (.inl (by simp)) hmem
  · refine h.ru.grown hgrow ?_ (.inl (by simp)) hmem
    rcases h.ne with h3 | h3 | h3
    · rw [h3]; cases uv.ownBlock <;> simp
    · exact .inl h3
    · exact .inr (Ne.symm h3)
  · right
    cases hu : uv.ownBlock with
    | none => exact .inl rfl
    | some u =>
      right
      intro e
      simp [Value.ownBlock] at e
      subst e
      rcases hat with h3 | h3
      · rcases h.ne with h4 | h4 | h4
        · rw [h4] at h3; cases h3
        · rw [h4] at hu; cases hu
        · rw [h3, hu] at h4; exact h4 rfl
      · obtain ⟨cs', k1, _⟩ := h.ru
        have := (k1.lt g hu).2
        omega
  · exact h.hB.grown hgrow h.hB.size (fun k hk => (hlt k hk).1)

end Go.Proofs.Ytgfajfepmflfhaa
