/- The proof's texts NdFits: what the claim reaches of them. -/
import Derived.Test.YtbgfankoojjejaaGreatDoorGd06
import Derived.Test.YtbgfankoojjejaaGreatDoorGd01
import Derived.WalkKit
import Derived.Deep.QuietTactic
set_option linter.unusedSimpArgs false
set_option linter.unusedVariables false
set_option maxHeartbeats 8000000
set_option maxRecDepth 1000000
namespace Go.Proofs.YtbgfankoojjejaaGreatDoor
open Go Go.RowKit
theorem nd_kinds {F:Nat→Prop} {w:World} {d:Nd} {v:Value} (h:NdX F w d v) :
  (d=.empty∧(v=.iface 128 (.agg #[])∨v=.nilIface))∨(∃ s:OSet,d=.one s∧v=.iface 134 (.agg #[.int .u64 (ow s 0),.int .u64 (ow s 1),.int .u64 (ow s 2),.int .u64 (ow s 3)]))∨
  (∃ l a cap,d=.cat l∧v=.iface 121 (.agg #[.slice a l.length cap])∧NdRw F w l a cap)∨(∃ l a cap,d=.alt l∧v=.iface 122 (.agg #[.slice a l.length cap])∧NdRw F w l a cap)∨
  (∃ d' mn mx u,d=.rep d' mn mx∧v=.iface 124 (.agg #[u,.int .i64 mn,.int .i64 mx])∧NdX F w d' u)∨(∃ num d' u,d=.group num d'∧v=.iface 126 (.agg #[.int .i64 num,u])∧NdX F w d' u)∨
  (∃ num,d=.back num∧v=.iface 140 (.agg #[.int .i64 num]))∨(d=.start∧v=.iface 142 (.agg #[]))∨(d=.fin∧v=.iface 144 (.agg #[])):=by
 obtain ⟨n,h⟩:=h
 cases n with
 | zero=>exact h.elim
 | succ n=>
  cases d with
  | empty=>exact .inl ⟨rfl,h⟩
  | one s=>exact .inr (.inl ⟨s,rfl,h⟩)
  | cat l=>obtain ⟨a,cap,h1,h2⟩:=h;exact .inr (.inr (.inl ⟨l,a,cap,rfl,h1,NdRw.of (n:=n) h2⟩))
  | alt l=>obtain ⟨a,cap,h1,h2⟩:=h;exact .inr (.inr (.inr (.inl ⟨l,a,cap,rfl,h1,NdRw.of (n:=n) h2⟩)))
  | rep d mn mx=>obtain ⟨u,h1,h2⟩:=h;exact .inr (.inr (.inr (.inr (.inl ⟨d,mn,mx,u,rfl,h1,n,h2⟩))))
  | group num d=>obtain ⟨u,h1,h2⟩:=h;exact .inr (.inr (.inr (.inr (.inr (.inl ⟨num,d,u,rfl,h1,n,h2⟩)))))
  | back num=>exact .inr (.inr (.inr (.inr (.inr (.inr (.inl ⟨num,rfl,h⟩))))))
  | start=>exact .inr (.inr (.inr (.inr (.inr (.inr (.inr (.inl ⟨rfl,h⟩)))))))
  | fin=>exact .inr (.inr (.inr (.inr (.inr (.inr (.inr (.inr ⟨rfl,h⟩)))))))
theorem nd_ret_bool {a b:Bool} (h:a=b):Ending.returned (.bool a)=.returned (.bool b):=by rw [h]
theorem isalt_any {F:Nat→Prop} (d:Nd) (v:Value) (w:World) (h:NdX F w d v):Calls Tryz.prog 66 #[v] w fun e w'=>e=.returned (.bool (!inAlt d))∧Below w.heap.size w w':=by
 rcases nd_kinds h with ⟨rfl,rfl | rfl⟩ | ⟨s,rfl,rfl⟩ | ⟨l,a,cap,rfl,rfl,hr⟩ | ⟨l,a,cap,rfl,rfl,hr⟩ | ⟨d',mn,mx,u,rfl,rfl,hu⟩ | ⟨num,d',u,rfl,rfl,hu⟩ | ⟨num,rfl,rfl⟩ | ⟨rfl,rfl⟩ | ⟨rfl,rfl⟩
 all_goals
  go_enter Tryz.func66,Tryz.ntmps66
  go_wp2_with fail
  go_ret
  refine ⟨rfl,?_⟩
  repeat (first | (with_reducible exact hW) | (with_reducible exact Below.refl _ _) | refine Below.drew ?_ | refine Below.setCell ?_ (by first | omega | (simp;omega) | simp) _ | refine Below.alloc ?_ (by first | omega | (simp;omega) | simp) _)
end Go.Proofs.YtbgfankoojjejaaGreatDoor
