/- A call of a function by its contract, as one step of a region that draws its order. Any program. -/
import Derived.Deep.RegionLaw
import Derived.Deep.AppendLies
import Derived.RangeFuncIn
namespace Go.Proofs.Ytaekjcbgnlldoaa
open Go

variable {P : Program}
theorem step_call {ops : Array Oper} {o : Oper} {a : Act} {w : World} {K : Act → World → Prop} {Q : Exit → Act → World → Prop} {E : Prop} (hgd : o.guard = none) (g : Operand) (xs : List Operand) (ts : Array TypeId)
    (ho : o.op = .call { callee := .value g, args := xs.toArray, argTypes := ts }) (f : Nat) (vs : List Value) (hg : a.eval g = .func (.func f) #[] #[]) (hv : xs.map a.eval = vs) (eg : ∀ args w, (callFunc f args).run P w = .ok (.enter f args) w)
    {R : Ending → World → Prop} (hC : Calls P f vs.toArray w R) (h : ∀ e w', R e w' → ∃ v, e = .returned v ∧ K (a.put o.dst v) w') : if Region.wanted o (yielded ops a.tmps) = true then Oper.wp P o a w K Q else E := by
  rw [if_pos (by simp [Region.wanted, hgd])]
  have hE : (execOp a.eval o).run P w = .ok (.enter f vs.toArray) w := by
    unfold execOp
    simp only [ho, resolve, hg, List.map_toArray, hv]
    simp [go_sem, invoke, eg]
  unfold Oper.wp
  rw [hE, Oper.upon_enter]
  refine hC.mono ?_
  intro e w' hr
  obtain ⟨v, rfl, hk⟩ := h e w' hr
  exact hk
end Go.Proofs.Ytaekjcbgnlldoaa
