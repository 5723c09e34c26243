/- RdF: What the reader's parts answer: a node, or a fault; a backslash and a byte.
   RdGH: RdG: A backslash and a byte: what makes an atom.
   RdH: The reader's atoms. -/
import Derived.Test.YtacpoandhocmhaaDoorRdDE
import Derived.Test.YtacpoandhocmhaaDoorRx
import Derived.Test.YtacpoandhocmhaaDoorBrProgDF
import Derived.Test.YtacpoandhocmhaaDoorNdFits
import Derived.Deep.RegionLaw
import Derived.Test.YtacpoandhocmhaaDoorMaC
namespace Go.Proofs.YtacpoandhocmhaaDoor
open Go Go.RowKit

end Go.Proofs.YtacpoandhocmhaaDoor
namespace Go.Proofs.YtacpoandhocmhaaDoor
open Go Go.RowKit

end Go.Proofs.YtacpoandhocmhaaDoor
namespace Go.Proofs.YtacpoandhocmhaaDoor
open Go Go.RowKit

theorem not_oz : (~~~oz : OSet) = oSpan 0 255 := by decide +kernel
/-- An atom, or a repetition at the front. -/
def atomF (s : List UInt8) (sub : Option (ReSt → ReRes (ReSt × Nd))) (front : Bool) (st : ReSt) : ReRes (ReSt × Nd) :=
  if front && (opAt false s st.pos 123 || opAt false s st.pos 43 || opAt false s st.pos 63) then .error (10, st.pos) else atomM false s sub st
theorem es_yes {s : List UInt8} {k c : Nat} (h : k + 1 < s.length) (h1 : byt s k = 92) (h2 : byt s (k + 1) = c) : esAt s k c = true := by
  unfold esAt; rw [decide_eq_true h, decide_eq_true h1, decide_eq_true h2]; rfl
theorem es_no {s : List UInt8} {k c : Nat} (h : byt s k ≠ 92 ∨ byt s (k + 1) ≠ c ∨ ¬ k + 1 < s.length) : esAt s k c = false := by
  unfold esAt
  rcases h with h | h | h
  · rw [decide_eq_false h]; simp
  · rw [decide_eq_false h]; simp
  · rw [decide_eq_false h]; simp
theorem ch_yes {s : List UInt8} {k c : Nat} (h : k < s.length) (h1 : byt s k = c) : chAt s k c = true := by
  unfold chAt; rw [decide_eq_true h, decide_eq_true h1]; rfl
theorem atomF_plain {s : List UInt8} {sub : Option (ReSt → ReRes (ReSt × Nd))} {front : Bool} {st : ReSt} (h : byt s st.pos ≠ 92) : atomF s sub front st =
    if chAt s st.pos 91 then (if (prs s ((st.pos : Int) + 1)).2.2 = 0 then .ok (st.to (prs s ((st.pos : Int) + 1)).2.1.toNat, .one (prs s ((st.pos : Int) + 1)).1) else .error ((prs s ((st.pos : Int) + 1)).2.2, (prs s ((st.pos : Int) + 1)).2.1.toNat))
    else if chAt s st.pos 46 then .ok (st.to (st.pos + 1), .one (oSpan 0 255)) else .ok (st.to (st.pos + 1), .one (oSpan (byt s st.pos) (byt s st.pos))) := by
  unfold atomF atomM opAt
  simp only [Bool.false_eq_true, if_false, es_no (.inl h), Bool.or_self, Bool.and_false, ch_no h]
theorem atomF_tail {s : List UInt8} {sub : Option (ReSt → ReRes (ReSt × Nd))} {front : Bool} {st : ReSt} (h : byt s st.pos = 92) (hl : st.pos < s.length) (h2 : ¬ st.pos + 1 < s.length) : atomF s sub front st = .error (11, st.pos) := by
  unfold atomF atomM opAt
  simp only [Bool.false_eq_true, if_false, es_no (.inr (.inr h2)), Bool.or_self, Bool.and_false, ch_yes hl h, ch_no (show byt s st.pos ≠ 91 by omega), ch_no (show byt s st.pos ≠ 46 by omega), if_true]
  rw [if_neg h2]
theorem atomF_grp {s : List UInt8} {sub : Option (ReSt → ReRes (ReSt × Nd))} {front : Bool} {st : ReSt} (h : byt s st.pos = 92) (h2 : st.pos + 1 < s.length) (hc : byt s (st.pos + 1) = 40) : atomF s sub front st = grpM false s sub st := by
  unfold atomF atomM opAt
  simp only [Bool.false_eq_true, if_false, es_yes h2 h hc, es_no (c := 123) (.inr (.inl (by omega : byt s (st.pos + 1) ≠ 123))), es_no (c := 43) (.inr (.inl (by omega : byt s (st.pos + 1) ≠ 43))), es_no (c := 63) (.inr (.inl (by omega : byt s (st.pos + 1) ≠ 63))), Bool.or_self, Bool.and_false, if_true]
theorem atomF_rep {s : List UInt8} {sub : Option (ReSt → ReRes (ReSt × Nd))} {st : ReSt} (h : byt s st.pos = 92) (h2 : st.pos + 1 < s.length) (hc : byt s (st.pos + 1) = 43 ∨ byt s (st.pos + 1) = 63 ∨ byt s (st.pos + 1) = 123) : atomF s sub true st = .error (10, st.pos) := by
  unfold atomF opAt
  simp only [Bool.false_eq_true, if_false]
  rcases hc with hc | hc | hc
  · rw [es_yes h2 h hc]; simp
  · rw [es_yes h2 h hc]; simp
  · rw [es_yes h2 h hc]; simp
theorem rep_found {s : List UInt8} {k : Nat} (h : byt s k = 92) (h2 : k + 1 < s.length) (hc : byt s (k + 1) = 43 ∨ byt s (k + 1) = 63 ∨ byt s (k + 1) = 123) : repAt false s k ≠ .none := by
  unfold repAt opAt
  simp only [Bool.false_eq_true, if_false, ch_no (show byt s k ≠ 42 by omega)]
  rcases hc with hc | hc | hc
  · rw [es_yes h2 h hc]; simp
  · rw [es_no (.inr (.inl (show byt s (k + 1) ≠ 43 by omega))), es_yes h2 h hc]; simp
  · rw [es_no (.inr (.inl (show byt s (k + 1) ≠ 43 by omega))), es_no (.inr (.inl (show byt s (k + 1) ≠ 63 by omega))), es_yes h2 h hc]
    simp only [Bool.false_eq_true, if_false, if_true]
    split <;> simp
theorem atomF_esc {s : List UInt8} {sub : Option (ReSt → ReRes (ReSt × Nd))} {front : Bool} {st : ReSt} {c : Nat} (h : byt s st.pos = 92) (h2 : st.pos + 1 < s.length) (hc : byt s (st.pos + 1) = c) (h40 : c ≠ 40) (h41 : c ≠ 41) (h43 : c ≠ 43) (h63 : c ≠ 63) (h123 : c ≠ 123) : atomF s sub front st = escM false st c := by
  have hl : st.pos < s.length := by omega
  unfold atomF atomM opAt
  simp only [Bool.false_eq_true, if_false, es_no (c := 123) (.inr (.inl (by rw [hc]; exact h123 : byt s (st.pos + 1) ≠ 123))), es_no (c := 43) (.inr (.inl (by rw [hc]; exact h43 : byt s (st.pos + 1) ≠ 43))), es_no (c := 63) (.inr (.inl (by rw [hc]; exact h63 : byt s (st.pos + 1) ≠ 63))), es_no (c := 40) (.inr (.inl (by rw [hc]; exact h40 : byt s (st.pos + 1) ≠ 40))), es_no (c := 41) (.inr (.inl (by rw [hc]; exact h41 : byt s (st.pos + 1) ≠ 41))), Bool.or_self, Bool.and_false, ch_yes hl h, ch_no (show byt s st.pos ≠ 91 by omega), ch_no (show byt s st.pos ≠ 46 by omega), if_true]
  rw [if_pos h2, hc]
end Go.Proofs.YtacpoandhocmhaaDoor
