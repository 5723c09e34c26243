/- Same of the document: whether two trees are the same. -/
import Derived.Test.YtbbcjclkklmoaaaDoorTrWk
import Derived.Test.YtbbcjclkklmoaaaDoorMaA
import Derived.Deep.CutBlock
namespace Go.Proofs.YtbbcjclkklmoaaaDoor
open Go Go.RowKit

theorem same_kind_ne (t u : Tr) (ht : tknown t = true) (hu : tknown u = true) (h : t.kind ≠ u.kind) : nsame (canon t) (canon u) = false := by
  rcases canon_cases t ht with ⟨k, e⟩ | ⟨k, _, e⟩ | ⟨k, _, e⟩ | ⟨k, _, e⟩ | ⟨k, _, _, _, e⟩ | ⟨k, _, _, e⟩ | ⟨k, _, e⟩ | ⟨k, e⟩ | ⟨k, e⟩ <;>
  rcases canon_cases u hu with ⟨k', e'⟩ | ⟨k', _, e'⟩ | ⟨k', _, e'⟩ | ⟨k', _, e'⟩ | ⟨k', _, _, _, e'⟩ | ⟨k', _, _, e'⟩ | ⟨k', _, e'⟩ | ⟨k', e'⟩ | ⟨k', e'⟩ <;>
  first
  | (exfalso; omega)
  | (rw [e, e']; simp [nsame])
theorem same_one (t u : Tr) (h : t.kind = 1) (h2 : u.kind = 1) : nsame (canon t) (canon u) = decide (t.set = u.set) := by
  rw [canon_1 t h, canon_1 u h2]; rfl
/-- Two of one kind, by their heads and their parts. -/
structure SHd (t u : Tr) (l m : List Tr) (R : Bool) : Prop where
  kt : 0 ≤ t.kind ∧ t.kind ≤ 8
  ne : t.kind ≠ u.kind → R = false
  one : t.kind = 1 → u.kind = 1 → R = decide (t.set = u.set)
  rep : t.kind = 4 → u.kind = 4 → R = (decide (t.mn = u.mn) && decide (t.mx = u.mx) && nsames (l.map canon) (m.map canon))
  grp : (t.kind = 5 ∨ t.kind = 6) → t.kind = u.kind → R = (decide (t.num = u.num) && nsames (l.map canon) (m.map canon))
  oth : (t.kind = 0 ∨ t.kind = 2 ∨ t.kind = 3 ∨ t.kind = 7 ∨ t.kind = 8) → t.kind = u.kind → R = nsames (l.map canon) (m.map canon)
  kn : (∀ i (h : i < l.length), tknown l[i] = true) ∧ (∀ i (h : i < m.length), tknown m[i] = true)
theorem shd_mk (t u : Tr) (ht : tknown t = true) (hu : tknown u = true) : SHd t u (tkids t) (tkids u) (nsame (canon t) (canon u)) := by
  have hk := nsame_kids (canon t) (canon u)
  rw [canon_kids, canon_kids] at hk
  refine ⟨known_kind t ht, same_kind_ne t u ht hu, same_one t u, fun h h2 => ?_, fun h h2 => ?_, fun h h2 => ?_, known_kids t ht, known_kids u hu⟩
  · rw [hk]
    congr 1
    rw [(canon_4 t h).1, (canon_4 u h2).1]; rfl
  · rw [hk]
    congr 1
    rcases h with h | h
    · rw [(canon_5 t h).1, (canon_5 u (by omega)).1]; rfl
    · rw [canon_6 t h, canon_6 u (by omega)]; rfl
  · rw [hk]
    have hh : nhead (canon t) (canon u) = true := by
      rcases h with h | h | h | h | h
      · rw [canon_0 t (by omega) (by omega) (by omega) (by omega) (by omega) (by omega) (by omega) (by omega), canon_0 u (by omega) (by omega) (by omega) (by omega) (by omega) (by omega) (by omega) (by omega)]; rfl
      · rw [canon_2 t h, canon_2 u (by omega)]; rfl
      · rw [canon_3 t h, canon_3 u (by omega)]; rfl
      · rw [canon_7 t h, canon_7 u (by omega)]; rfl
      · rw [canon_8 t h, canon_8 u (by omega)]; rfl
    rw [hh, Bool.true_and]
mutual
theorem nsame_comm : ∀ d e : Nd, nsame d e = nsame e d
  | .empty, e => by cases e <;> rfl
  | .one s, e => by cases e <;> first | rfl | exact decide_eq_decide.2 ⟨Eq.symm, Eq.symm⟩
  | .cat l, e => by cases e <;> first | rfl | exact nsames_comm l _
  | .alt l, e => by cases e <;> first | rfl | exact nsames_comm l _
  | .rep d a b, e => by
    cases e with
    | rep d' a' b' =>
      have h := nsame_comm d d'
      simp only [nsame]
      rw [h, show decide (a = a') = decide (a' = a) from decide_eq_decide.2 ⟨Eq.symm, Eq.symm⟩, show decide (b = b') = decide (b' = b) from decide_eq_decide.2 ⟨Eq.symm, Eq.symm⟩]
    | _ => rfl
  | .group n d, e => by
    cases e with
    | group n' d' =>
      have h := nsame_comm d d'
      simp only [nsame]
      rw [h, show decide (n = n') = decide (n' = n) from decide_eq_decide.2 ⟨Eq.symm, Eq.symm⟩]
    | _ => rfl
  | .back n, e => by cases e <;> first | rfl | exact decide_eq_decide.2 ⟨Eq.symm, Eq.symm⟩
  | .start, e => by cases e <;> rfl
  | .fin, e => by cases e <;> rfl
theorem nsames_comm : ∀ l m : List Nd, nsames l m = nsames m l
  | [], m => by cases m <;> rfl
  | d :: ds, m => by
    cases m with
    | nil => rfl
    | cons e es => simp only [nsames]; rw [nsame_comm d e, nsames_comm ds es]
end
set_option linter.unusedSimpArgs false in
set_option maxRecDepth 100000 in
set_option maxHeartbeats 8000000 in
theorem rsame_any : ∀ (N : Nat) (t : Tr) (a : Option Addr) (cap : Nat) (u : Tr) (a2 : Option Addr) (cap2 : Nat) (w : World), TrD N w t a cap → TrD N w u a2 cap2 → tknown t = true → tknown u = true →
    Calls Tryd.prog 35 #[tV t a cap, tV u a2 cap2] w fun e w' => e = .returned (.bool (nsame (canon t) (canon u))) ∧ Below w.heap.size w w' := by
  intro N
  induction N with
  | zero => intro t a cap u a2 cap2 w h; exact (trd_zero h).elim
  | succ N ih0 =>
    intro t a cap u a2 cap2 w h h2 hkt hku
    have hW := ((Below.refl w.heap.size w).alloc (Nat.le_refl _) (.cells (tC t a cap) 46)).alloc (by simp) (.cells (tC u a2 cap2) 46)
    have hK1 := fun w' (hb : Below w.heap.size w w') => kids_any N t a cap w' (h.below hb)
    have hK2 := fun w' (hb : Below w.heap.size w w') => kids_any N u a2 cap2 w' (h2.below hb)
    have hH := shd_mk t u hkt hku
    clear h h2 hkt hku
    generalize nsame (canon t) (canon u) = R at hH ⊢
    generalize tkids t = l at hK1 hH
    generalize tkids u = m at hK2 hH
    unfold tV at hK1 hK2 ⊢
    go_enter Tryd.func35, Tryd.ntmps35
    have hT := (Blk.new w (tC t a cap) 46 w.heap.size rfl).alloc (.cells (tC u a2 cap2) 46)
    have hU := Blk.new (w.alloc (.cells (tC t a cap) 46)) (tC u a2 cap2) 46 (w.heap.size + 1) (by simp)
    have hlU := hU.lt
    by_cases hke : t.kind = u.kind
    · have b0 : (t.kind != u.kind) = false := by simp [hke]
      have Hke := Lib.hid hke
      clear hke
      go_upto_block 0 with fail
      go_cut [] (fun wx => R = nsames (l.map canon) (m.map canon) ∧ wx = (w.alloc (.cells (tC t a cap) 46)).alloc (.cells (tC u a2 cap2) 46))
      case first =>
        clear ih0 hK1 hK2
        rcases (show (t.kind = 0 ∨ t.kind = 2 ∨ t.kind = 3 ∨ t.kind = 7 ∨ t.kind = 8) ∨ t.kind = 1 ∨ t.kind = 4 ∨ t.kind = 5 ∨ t.kind = 6 by have := hH.kt; omega) with hk | hk | hk | hk | hk
        · have HB := Lib.hid (hH.oth hk Hke.out)
          have e1 : (t.kind == 1) = false := by simp; omega
          have e4 : (t.kind == 4) = false := by simp; omega
          have e5 : (t.kind == 5) = false := by simp; omega
          have e6 : (t.kind == 6) = false := by simp; omega
          clear hk
          go_wp2_with fail
          all_goals go_meet
          all_goals exact ⟨HB.out, rfl⟩
        · have HB := Lib.hid (hH.one hk (by rw [← Hke.out, hk]))
          have e1 : (t.kind == 1) = true := by simp [hk]
          have hq := fun w => rset_eql t.set u.set w
          generalize decide (t.set = u.set) = q at hq HB
          clear hk
          go_wp2_with fail
          go_ret
          exact ⟨tr_ret_bool (by rw [HB.out]), hW⟩
        · have hB := hH.rep hk (by rw [← Hke.out, hk])
          have e1 : (t.kind == 1) = false := by simp; omega
          have e4 : (t.kind == 4) = true := by simp [hk]
          clear hk
          by_cases q1 : t.mn = u.mn
          · have f1 : (t.mn != u.mn) = false := by simp [q1]
            by_cases q2 : t.mx = u.mx
            · have f2 : (t.mx != u.mx) = false := by simp [q2]
              have HB := Lib.hid (show R = nsames (l.map canon) (m.map canon) by rw [hB, decide_eq_true q1, decide_eq_true q2]; rfl)
              clear q1 q2 hB
              go_wp2_with fail
              all_goals go_meet
              all_goals exact ⟨HB.out, rfl⟩
            · have f2 : (t.mx != u.mx) = true := by simp [q2]
              have HB := Lib.hid (show R = false by rw [hB, decide_eq_false q2, Bool.and_false]; rfl)
              clear q1 q2 hB
              go_wp2_with fail
              go_ret
              exact ⟨tr_ret_bool (by rw [HB.out]), hW⟩
          · have f1 : (t.mn != u.mn) = true := by simp [q1]
            have HB := Lib.hid (show R = false by rw [hB, decide_eq_false q1]; rfl)
            clear q1 hB
            go_wp2_with fail
            go_ret
            exact ⟨tr_ret_bool (by rw [HB.out]), hW⟩
        all_goals
          have hB := hH.grp (by omega) Hke.out
          have e1 : (t.kind == 1) = false := by simp; omega
          have e4 : (t.kind == 4) = false := by simp; omega
          first | (have e5 : (t.kind == 5) = true := by simp [hk]) | (have e5 : (t.kind == 5) = false := by simp; omega)
          try have e6 : (t.kind == 6) = true := by simp [hk]
          clear hk
          by_cases q1 : t.num = u.num
          · have f1 : (t.num != u.num) = false := by simp [q1]
            have HB := Lib.hid (show R = nsames (l.map canon) (m.map canon) by rw [hB, decide_eq_true q1]; rfl)
            clear q1 hB
            go_wp2_with fail
            all_goals go_meet
            all_goals exact ⟨HB.out, rfl⟩
          · have f1 : (t.num != u.num) = true := by simp [q1]
            have HB := Lib.hid (show R = false by rw [hB, decide_eq_false q1]; rfl)
            clear q1 hB
            go_wp2_with fail
            go_ret
            exact ⟨tr_ret_bool (by rw [HB.out]), hW⟩
      case rest =>
        obtain ⟨hRn, rfl⟩ := hcut
        have HRn := Lib.hid hRn
        have HKN := Lib.hid hH.kn
        clear hRn hH Hke b0
        go_upto_region 13 with fail
        go_cut [5, 6] (fun x y wx => ∃ a1 c1 a3 c3, x = .slice a1 l.length c1 ∧ y = .slice a3 m.length c3 ∧ RowD N wx l a1 c1 ∧ RowD N wx m a3 c3 ∧ Below w.heap.size w wx)
        case first =>
          clear ih0 hT
          go_region_with (first | (go_at_call_of 63 (Tr.kind t); refine (hK1 _ (by first | exact hW | exact Below.drew hW)).mono ?_; rintro e w8 ⟨a1, c1, rfl, hR1, b8⟩; (first | replace hW := hW.trans (b8.mono hW.size) | replace hW := (Below.drew hW).trans (b8.mono hW.size)); (first | replace hU := hU.below b8 hU.lt | replace hU := (Blk.drew hU).below b8 hU.lt); (try clear b8); obtain ⟨q0, q1, q2, q3, q4, q5, q6, q7, q8⟩ := blk9 hU) | (go_at_call_of 63 (Tr.kind u); refine (hK2 _ (by first | exact hW | exact Below.drew hW)).mono ?_; rintro e w9 ⟨a3, c3, rfl, hR2, b9⟩; have hR1' := hR1.below b9; replace hW := hW.trans (b9.mono hW.size); (try clear b9)))
          all_goals go_wp2_with fail
          all_goals go_meet
          all_goals exact ⟨a1, c1, a3, c3, rfl, rfl, hR1', hR2, hW⟩
        case rest =>
          clear hW hU hlU hK1 hK2 hT
          obtain ⟨a1, c1, a3, c3, rfl, rfl, hR1, hR2, hW⟩ := hcut
          have hl1 := hR1.1
          have hl2 := hR1.2.1
          have hm1 := hR2.1
          have hm2 := hR2.2.1
          unfold maxLen at hl2 hm2
          have HR1 := Lib.hid hR1.2.2
          have HR2 := Lib.hid hR2.2.2
          clear hR1 hR2
          by_cases hln : l.length = m.length
          · have e1 : ((l.length : Int) != (m.length : Int)) = false := by simp [hln]
            have Hln := Lib.hid hln
            clear hln
            go_wp2_with fail
            go_loopw [55] (fun i wr => ∃ k : Nat, k ≤ l.length ∧ i = .int .i64 k ∧ nsames ((l.map canon).take k) ((m.map canon).take k) = true ∧ Below wc.heap.size wc wr) (fun i _ => l.length - (intOf i).toNat)
            case atStart => exact ⟨0, by omega, rfl, rfl, Below.refl _ _⟩
            case round =>
              obtain ⟨k, hk, rfl, hsm, hV⟩ := hrel
              have Hsm := Lib.hid hsm
              clear hsm
              by_cases hlt : k < l.length
              · obtain ⟨b, o, rfl, hbl, hx⟩ := HR1.out (by omega)
                have hkm : k < m.length := by have := Hln.out; omega
                obtain ⟨b', o', rfl, hbl', hx'⟩ := HR2.out (by omega)
                obtain ⟨a', cap', h9, hr⟩ := hx k hlt
                obtain ⟨a'', cap'', h9', hr'⟩ := hx' k (by omega)
                have Htk := Lib.hid (nsames_take (l.map canon) (m.map canon) (by simpa using Hln.out) k (by simpa using hlt) (by simp; omega))
                have Hno := Lib.hid (nsames_no (l.map canon) (m.map canon) k (by simpa using hlt) (by simp; omega))
                simp only [List.getElem_map] at Htk Hno
                replace h9 := h9.below hV hbl
                replace h9' := h9'.below hV hbl'
                replace hr := (hr.below hV).below (Below.drew (Below.refl _ _))
                replace hr' := (hr'.below hV).below (Below.drew (Below.refl _ _))
                obtain ⟨c0, c1, c2, c3, c4, c5, c6, c7, c8⟩ := h9
                obtain ⟨d0, d1, d2, d3, d4, d5, d6, d7, d8⟩ := h9'
                clear hx hx'
                have e3 : decide (k < m.length) = true := decide_eq_true hkm
                have hkx := HKN.out.1 k hlt
                have hky := HKN.out.2 k hkm
                generalize l[k] = x at *
                generalize m[k] = y at *
                have hI := ih0 x a' cap' y a'' cap'' _ hr hr' hkx hky
                unfold tV at hI
                cases hxy : nsame (canon x) (canon y)
                · rw [hxy] at hI
                  have Hr := Lib.hid (Hno.out hxy)
                  clear hxy
                  go_wp2_with fail
                  go_region_with (go_at_call 35; refine hI.mono ?_; rintro e w8 ⟨rfl, b8⟩; have hV8 := (Below.drew hV).trans (b8.mono hV.size))
                  all_goals go_wp2_with fail
                  all_goals go_ret
                  all_goals exact ⟨tr_ret_bool (by rw [HRn.out, Hr.out]), hW.trans (hV8.mono hW.size)⟩
                · rw [hxy] at hI
                  have Hr := Lib.hid (show nsames ((l.map canon).take (k + 1)) ((m.map canon).take (k + 1)) = true by rw [Htk.out, Hsm.out, hxy]; rfl)
                  clear hxy
                  go_wp2_with fail
                  go_region_with (go_at_call 35; refine hI.mono ?_; rintro e w8 ⟨rfl, b8⟩; have hV8 := (Below.drew hV).trans (b8.mono hV.size))
                  all_goals go_wp2_with fail
                  all_goals
                    go_roundw
                    case rel => exact ⟨k + 1, by omega, by go_num, Hr.out, hV8⟩
                    case measure => simp [intOf]; omega
              · obtain rfl : k = l.length := by omega
                have Hr := Lib.hid (show nsames (l.map canon) (m.map canon) = true by
                  have := Hsm.out
                  rw [List.take_of_length_le (by simp), List.take_of_length_le (by have := Hln.out; simp; omega)] at this
                  exact this)
                go_wp2_with fail
                go_ret
                exact ⟨tr_ret_bool (by rw [HRn.out, Hr.out]), hW.trans (hV.mono hW.size)⟩
          · have e1 : ((l.length : Int) != (m.length : Int)) = true := by simp; omega
            have Hn := Lib.hid (nsames_len (l.map canon) (m.map canon) (by rw [List.length_map, List.length_map]; exact hln))
            go_wp2_with fail
            go_ret
            exact ⟨tr_ret_bool (by rw [HRn.out, Hn.out]), hW⟩
    · have b0 : (t.kind != u.kind) = true := by simp [hke]
      have HB := Lib.hid (hH.ne hke)
      clear hke
      go_wp2_with fail
      go_ret
      exact ⟨tr_ret_bool (by rw [HB.out]), hW⟩
end Go.Proofs.YtbbcjclkklmoaaaDoor
