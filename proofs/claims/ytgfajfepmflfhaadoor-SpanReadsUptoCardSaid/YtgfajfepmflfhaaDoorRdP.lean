/- Plain arithmetic of decimal numbers and of texts with two points; it imports nothing of the program. -/
import Derived.Lib.AtoiAll
import Derived.Lib.ItoaNum
import Derived.Lib.IndexMore
namespace Go.Proofs.YtgfajfepmflfhaaDoor
set_option linter.unusedVariables false
set_option linter.unusedSimpArgs false
open Go.Lib

/-- A decimal digit. -/
def isDig (c : UInt8) : Prop := 48 ≤ c.toNat ∧ c.toNat ≤ 57
theorem ofNat_dig {d : Nat} (h : d < 10) : (UInt8.ofNat (48 + d)).toNat = 48 + d := by
  rw [UInt8.toNat_ofNat']; omega
theorem dec_small {u : Nat} (h : u < 10) : decDigits u = [UInt8.ofNat (48 + u)] := by rw [decDigits, dif_pos h]
theorem dec_big {u : Nat} (h : ¬u < 10) : decDigits u = decDigits (u / 10) ++ [UInt8.ofNat (48 + u % 10)] := by rw [decDigits, dif_neg h]
theorem dec_digs : ∀ (u : Nat) (c : UInt8), c ∈ decDigits u → isDig c := by
  intro u
  induction u using Nat.strongRecOn with
  | ind u ih =>
    intro c hc
    by_cases h : u < 10
    · rw [dec_small h] at hc
      rw [List.mem_singleton.1 hc, isDig, ofNat_dig h]
      omega
    · rw [dec_big h] at hc
      rcases List.mem_append.1 hc with hc | hc
      · exact ih (u / 10) (by omega) c hc
      · rw [List.mem_singleton.1 hc, isDig, ofNat_dig (Nat.mod_lt _ (by decide))]
        omega
theorem dec_ne (u : Nat) : decDigits u ≠ [] := by
  by_cases h : u < 10
  · rw [dec_small h]; exact List.cons_ne_nil _ _
  · rw [dec_big h]; simp
/-- What digits read from the left make. -/
def rd (acc : Nat) (l : List UInt8) : Nat := l.foldl (fun a c => a * 10 + (c.toNat - 48)) acc
theorem rd_append (acc : Nat) (l k : List UInt8) : rd acc (l ++ k) = rd (rd acc l) k := by simp [rd]
theorem rd_dec (u : Nat) : rd 0 (decDigits u) = u := by
  induction u using Nat.strongRecOn with
  | ind u ih =>
    by_cases h : u < 10
    · rw [dec_small h]
      show 0 * 10 + ((UInt8.ofNat (48 + u)).toNat - 48) = u
      rw [ofNat_dig h]; omega
    · rw [dec_big h, rd_append, ih (u / 10) (by omega)]
      show u / 10 * 10 + ((UInt8.ofNat (48 + u % 10)).toNat - 48) = u
      rw [ofNat_dig (Nat.mod_lt _ (by decide))]; omega
theorem rd_ge (l : List UInt8) : ∀ acc, acc ≤ rd acc l := by
  induction l with
  | nil => intro acc; exact Nat.le_refl _
  | cons c l ih =>
    intro acc
    have := ih (acc * 10 + (c.toNat - 48))
    show acc ≤ rd (acc * 10 + (c.toNat - 48)) l
    omega
theorem parse_rd : ∀ (l : List UInt8) (acc : Nat), (∀ c ∈ l, isDig c) → rd acc l < 1000000000000000000 → parseUint10 acc l = .ok (rd acc l)
  | [], acc, _, _ => rfl
  | c :: r, acc, hd, hb => by
    have h := hd c (List.mem_cons_self ..)
    have hb' : rd (acc * 10 + (c.toNat - 48)) r < 1000000000000000000 := hb
    have hg := rd_ge r (acc * 10 + (c.toNat - 48))
    simp only [parseUint10]
    unfold isDig at h
    rw [if_pos h, if_neg (by omega), if_neg (by omega)]
    exact parse_rd r _ (fun e he => hd e (List.mem_cons_of_mem _ he)) hb'
theorem mag_dec {u : Nat} (h : u < 1000000000000000000) : parseMag (decDigits u) = .ok u := by
  unfold parseMag
  rw [if_neg (dec_ne u), parse_rd _ _ (dec_digs u) (by rw [rd_dec]; exact h), rd_dec]
theorem atoi_itoa (n : Int) (h0 : -1000000000000000 ≤ n) (h1 : n ≤ 1000000000000000) : atoiAll (itoa n) = .ok n := by
  unfold itoa
  by_cases h : n < 0
  · rw [if_pos h]
    have hm := mag_dec (u := n.natAbs) (by omega)
    show (match parseMag (if (45 : UInt8).toNat = 43 ∨ (45 : UInt8).toNat = 45 then decDigits n.natAbs else 45 :: decDigits n.natAbs) with
      | .syntax => NumEnd.syntax
      | .range => .range
      | .ok u => if ¬ ((45 : UInt8).toNat = 45) ∧ 9223372036854775808 ≤ u then .range else if ((45 : UInt8).toNat = 45) ∧ 9223372036854775808 < u then .range else .ok (if ((45 : UInt8).toNat = 45) then -(u : Int) else u)) = _
    rw [if_pos (by decide), hm]
    show (if ¬ ((45 : UInt8).toNat = 45) ∧ 9223372036854775808 ≤ n.natAbs then NumEnd.range else if ((45 : UInt8).toNat = 45) ∧ 9223372036854775808 < n.natAbs then .range else .ok (if ((45 : UInt8).toNat = 45) then -(n.natAbs : Int) else n.natAbs)) = _
    rw [if_neg (fun k => k.1 (by decide)), if_neg (fun k => by omega), if_pos (by decide)]
    congr 1
    omega
  · rw [if_neg h]
    have hm := mag_dec (u := n.toNat) (by omega)
    cases hd : decDigits n.toNat with
    | nil => exact absurd hd (dec_ne _)
    | cons c r =>
      have hc := dec_digs n.toNat c (by rw [hd]; exact List.mem_cons_self ..)
      unfold isDig at hc
      show (match parseMag (if c.toNat = 43 ∨ c.toNat = 45 then r else c :: r) with
        | .syntax => NumEnd.syntax
        | .range => .range
        | .ok u => if ¬ (c.toNat = 45) ∧ 9223372036854775808 ≤ u then .range else if (c.toNat = 45) ∧ 9223372036854775808 < u then .range else .ok (if (c.toNat = 45) then -(u : Int) else u)) = _
      rw [if_neg (by omega), ← hd, hm]
      show (if ¬ (c.toNat = 45) ∧ 9223372036854775808 ≤ n.toNat then NumEnd.range else if (c.toNat = 45) ∧ 9223372036854775808 < n.toNat then .range else .ok (if (c.toNat = 45) then -(n.toNat : Int) else n.toNat)) = _
      rw [if_neg (by omega), if_neg (by omega), if_neg (by omega)]
      congr 1
      omega
/-- No point stands in a number. -/
theorem itoa_no (n : Int) : ∀ c ∈ itoa n, c ≠ 46 := by
  intro c hc e
  subst e
  unfold itoa at hc
  split at hc
  · rcases List.mem_cons.1 hc with hc | hc
    · exact absurd hc (by decide)
    · have := dec_digs _ _ hc
      unfold isDig at this
      exact absurd this (by decide)
  · have := dec_digs _ _ hc
    unfold isDig at this
    exact absurd this (by decide)
theorem itoa_ne (n : Int) : itoa n ≠ [] := by
  unfold itoa
  split
  · exact List.cons_ne_nil _ _
  · exact dec_ne _
theorem itoa_inj {m n : Int} (hm0 : -1000000000000000 ≤ m) (hm1 : m ≤ 1000000000000000) (hn0 : -1000000000000000 ≤ n) (hn1 : n ≤ 1000000000000000) (h : itoa m = itoa n) : m = n := by
  have a := atoi_itoa m hm0 hm1
  rw [h, atoi_itoa n hn0 hn1] at a
  injection a with a
  exact a.symm
/-- The first two points stand behind what has none. -/
theorem index_points : ∀ (l r : List UInt8), (∀ c ∈ l, c ≠ 46) → index (l ++ [46, 46] ++ r) [46, 46] = l.length
  | [], r, _ => by simp [index, List.isPrefixOf]
  | c :: l, r, h => by
    have hc := h c (List.mem_cons_self ..)
    have ih := index_points l r (fun e he => h e (List.mem_cons_of_mem _ he))
    rw [List.cons_append, List.cons_append, index]
    have hp : List.isPrefixOf [46, 46] (c :: (l ++ [46, 46] ++ r)) = false := by
      simp [List.isPrefixOf]
      intro e
      exact absurd e.symm hc
    rw [hp, ih]
    have h2 : ((l.length : Int) == -1) = false := by rw [beq_eq_false_iff_ne]; omega
    simp [h2]
theorem cut_points (l r : List UInt8) (h : ∀ c ∈ l, c ≠ 46) : cut (l ++ [46, 46] ++ r) [46, 46] = (l, r, true) := by
  unfold cut
  rw [index_points l r h, if_pos (by omega)]
  have e : ((l.length : Int)).toNat = l.length := by omega
  rw [e]
  simp
/-- A span's text. -/
def fmtL (a b : Int) : List UInt8 := itoa a ++ [46, 46] ++ itoa b
theorem cut_fmt (a b : Int) : cut (fmtL a b) [46, 46] = (itoa a, itoa b, true) := cut_points _ _ (itoa_no a)
theorem fmt_inj {a b c d : Int} (ha : -1000000000000000 ≤ a ∧ a ≤ 1000000000000000) (hb : -1000000000000000 ≤ b ∧ b ≤ 1000000000000000) (hc : -1000000000000000 ≤ c ∧ c ≤ 1000000000000000) (hd : -1000000000000000 ≤ d ∧ d ≤ 1000000000000000) (h : fmtL a b = fmtL c d) : a = c ∧ b = d := by
  have e := cut_fmt a b
  rw [h, cut_fmt c d] at e
  injection e with e1 e2
  injection e2 with e2 _
  exact ⟨(itoa_inj hc.1 hc.2 ha.1 ha.2 e1).symm, (itoa_inj hd.1 hd.2 hb.1 hb.2 e2).symm⟩
end Go.Proofs.YtgfajfepmflfhaaDoor
