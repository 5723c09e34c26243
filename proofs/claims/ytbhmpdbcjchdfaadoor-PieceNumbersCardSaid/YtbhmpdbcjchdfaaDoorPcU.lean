/- The document's own reading of what stands between delimiters (layer 11), walked. -/
import Derived.Test.YtbhmpdbcjchdfaaDoorPcS
import Derived.Test.YtbhmpdbcjchdfaaDoorPcB
namespace Go.Proofs.YtbhmpdbcjchdfaaDoor
open Go.RowKit

theorem ret_int {a b : Int} (h : a = b) : Ending.returned (.int .i64 a) = .returned (.int .i64 b) := by rw [h]

set_option maxHeartbeats 4000000 in
set_option maxRecDepth 1000000 in
theorem rbracket_at (s : ByteArray) (k : Nat) (w : World) (hs : s.size ≤ 4000000) (hk : k < s.size) :
    Calls Tryd.prog 31 #[.string s, .int .i64 k] w fun e w' => e = .returned (.int .i64 ((k + pcBrk (s.data.toList.drop (k + 1)) : Nat) : Int)) ∧ Below w.heap.size w w' := by
  obtain ⟨R, hR⟩ : ∃ R, k + pcBrk (s.data.toList.drop (k + 1)) = R := ⟨_, rfl⟩
  rw [hR]
  obtain ⟨p1, hp1⟩ : ∃ p, k + 1 = p := ⟨_, rfl⟩
  have W1 : IntKind.i64.wrap ((k : Int) + 1) = (p1 : Int) := by rw [IntWalk.i64_in _ (by omega)]; omega
  obtain ⟨p2, hp2⟩ : ∃ p, p1 + pcOpt 94 (s.data.toList.drop p1) = p := ⟨_, rfl⟩
  obtain ⟨p3, hp3⟩ : ∃ p, p2 + pcOpt 93 (s.data.toList.drop p2) = p := ⟨_, rfl⟩
  have hl2 := pcOpt_le 94 (s.data.toList.drop p1)
  have hl3 := pcOpt_le 93 (s.data.toList.drop p2)
  rw [List.length_drop, ← size_list] at hl2 hl3
  have ha : p1 + pcAhead (s.data.toList.drop p1) = p3 := by
    unfold pcAhead
    rw [List.drop_drop, hp2, ← hp3, ← hp2]
    omega
  have HR0 := Lib.hid (show R = k + (1 + (p3 - p1) + min (pcLen (fun b => !(b == 93)) (s.data.toList.drop p3) + 1) (s.data.toList.drop p3).length) by
    rw [← hR, pcBrk, hp1, List.drop_drop, ha, show pcAhead (s.data.toList.drop p1) = p3 - p1 by omega])
  have h13 : p1 ≤ p3 := by omega
  have h3s : p3 ≤ s.size := by omega
  clear hR ha hl2 hl3
  go_enter Tryd.func31, Tryd.ntmps31
  by_cases hl1 : p1 < s.size
  · have hli1 : (p1 : Int) < (s.size : Int) := by omega
    by_cases hx1 : s[p1] = 94
    · have qx1 : ((s[p1].toNat : Int) == 94) = true := by rw [hx1]; rfl
      have ho1 := pcOpt_yes (c := 94) hl1 hx1
      rw [ho1] at hp2
      have W1 : IntKind.i64.wrap ((p1 : Int) + 1) = (p2 : Int) := by rw [IntWalk.i64_in _ (by omega)]; omega
      clear hx1 ho1
      by_cases hl2 : p2 < s.size
      · have hli2 : (p2 : Int) < (s.size : Int) := by omega
        by_cases hx2 : s[p2] = 93
        · have qx2 : ((s[p2].toNat : Int) == 93) = true := by rw [hx2]; rfl
          have ho2 := pcOpt_yes (c := 93) hl2 hx2
          rw [ho2] at hp3
          have W2 : IntKind.i64.wrap ((p2 : Int) + 1) = (p3 : Int) := by rw [IntWalk.i64_in _ (by omega)]; omega
          clear hx2 ho2
          obtain ⟨Z, hZ⟩ : ∃ Z, p3 + pcLen (fun b => !(b == 93)) (s.data.toList.drop p3) = Z := ⟨_, rfl⟩
          have hle := pcLen_dropLe (fun b => !(b == 93)) s p3 (by omega)
          rw [hZ] at hle
          have HR := Lib.hid (show R = min (Z + 1) s.size by
            have h1 := HR0.out
            have h2 : (s.data.toList.drop p3).length = s.size - p3 := by rw [List.length_drop, ← size_list]
            rw [h2] at h1
            omega)
          have HZ := Lib.hid hZ
          clear hZ hle
          go_wp2
          go_loopw [1] (fun a wr => ∃ p : Nat, p ≤ s.size ∧ a = .int .i64 p ∧ p + pcLen (fun b => !(b == 93)) (s.data.toList.drop p) = Z ∧ w = wr) (fun a _ => s.size - (intOf a).toNat)
          case atStart => exact ⟨p3, by omega, rfl, HZ.out, rfl⟩
          case round =>
            obtain ⟨p, hp, rfl, hpZ, rfl⟩ := hrel
            have HpZ := Lib.hid hpZ
            clear hpZ
            have Wp : IntKind.i64.wrap ((p : Int) + 1) = (p : Int) + 1 := IntWalk.i64_in _ (by omega)
            have stop : pcLen (fun b => !(b == 93)) (s.data.toList.drop p) = 0 → min ((p : Int) + 1) (s.size : Int) = (R : Int) := fun h => by
              have h1 := HpZ.out
              have h2 := HR.out
              rw [h] at h1
              omega
            by_cases hlt : p < s.size
            · have hlti : (p : Int) < (s.size : Int) := by omega
              by_cases hx : s[p] = 93
              · have q : ((s[p].toNat : Int) != 93) = false := by rw [hx]; rfl
                have Hst := Lib.hid (stop (pcLen_atNo (p := fun b => !(b == 93)) hlt (by rw [hx]; rfl)))
                clear hx stop
                go_wp2
                go_ret
                exact ⟨ret_int Hst.out, Below.refl _ _⟩
              · have q : ((s[p].toNat : Int) != 93) = true := bne_iff_ne.2 fun h => hx (UInt8.toNat_inj.1 (by show s[p].toNat = 93; omega))
                have Hs := Lib.hid (pcLen_atYes (p := fun b => !(b == 93)) hlt (by simp [hx]))
                clear hx stop
                go_wp2
                go_roundw
                case rel => exact ⟨p + 1, by omega, by go_num, by have := HpZ.out; rw [Hs.out] at this; omega, by first | rfl | trivial⟩
                case measure => simp [intOf]; omega
            · have hlti : ¬ (p : Int) < (s.size : Int) := by omega
              have Hst := Lib.hid (stop (pcLen_atEnd _ (by omega)))
              clear stop
              go_wp2
              go_ret
              exact ⟨ret_int Hst.out, Below.refl _ _⟩
        · have qx2 : ((s[p2].toNat : Int) == 93) = false := beq_eq_false_iff_ne.2 fun h => hx2 (UInt8.toNat_inj.1 (by show s[p2].toNat = 93; omega))
          have ho2 := pcOpt_not (c := 93) hl2 hx2
          rw [ho2, Nat.add_zero] at hp3
          subst hp3
          clear hx2 ho2
          obtain ⟨Z, hZ⟩ : ∃ Z, p2 + pcLen (fun b => !(b == 93)) (s.data.toList.drop p2) = Z := ⟨_, rfl⟩
          have hle := pcLen_dropLe (fun b => !(b == 93)) s p2 (by omega)
          rw [hZ] at hle
          have HR := Lib.hid (show R = min (Z + 1) s.size by
            have h1 := HR0.out
            have h2 : (s.data.toList.drop p2).length = s.size - p2 := by rw [List.length_drop, ← size_list]
            rw [h2] at h1
            omega)
          have HZ := Lib.hid hZ
          clear hZ hle
          go_wp2
          go_loopw [1] (fun a wr => ∃ p : Nat, p ≤ s.size ∧ a = .int .i64 p ∧ p + pcLen (fun b => !(b == 93)) (s.data.toList.drop p) = Z ∧ w = wr) (fun a _ => s.size - (intOf a).toNat)
          case atStart => exact ⟨p2, by omega, rfl, HZ.out, rfl⟩
          case round =>
            obtain ⟨p, hp, rfl, hpZ, rfl⟩ := hrel
            have HpZ := Lib.hid hpZ
            clear hpZ
            have Wp : IntKind.i64.wrap ((p : Int) + 1) = (p : Int) + 1 := IntWalk.i64_in _ (by omega)
            have stop : pcLen (fun b => !(b == 93)) (s.data.toList.drop p) = 0 → min ((p : Int) + 1) (s.size : Int) = (R : Int) := fun h => by
              have h1 := HpZ.out
              have h2 := HR.out
              rw [h] at h1
              omega
            by_cases hlt : p < s.size
            · have hlti : (p : Int) < (s.size : Int) := by omega
              by_cases hx : s[p] = 93
              · have q : ((s[p].toNat : Int) != 93) = false := by rw [hx]; rfl
                have Hst := Lib.hid (stop (pcLen_atNo (p := fun b => !(b == 93)) hlt (by rw [hx]; rfl)))
                clear hx stop
                go_wp2
                go_ret
                exact ⟨ret_int Hst.out, Below.refl _ _⟩
              · have q : ((s[p].toNat : Int) != 93) = true := bne_iff_ne.2 fun h => hx (UInt8.toNat_inj.1 (by show s[p].toNat = 93; omega))
                have Hs := Lib.hid (pcLen_atYes (p := fun b => !(b == 93)) hlt (by simp [hx]))
                clear hx stop
                go_wp2
                go_roundw
                case rel => exact ⟨p + 1, by omega, by go_num, by have := HpZ.out; rw [Hs.out] at this; omega, by first | rfl | trivial⟩
                case measure => simp [intOf]; omega
            · have hlti : ¬ (p : Int) < (s.size : Int) := by omega
              have Hst := Lib.hid (stop (pcLen_atEnd _ (by omega)))
              clear stop
              go_wp2
              go_ret
              exact ⟨ret_int Hst.out, Below.refl _ _⟩
      · have hli2 : ¬ (p2 : Int) < (s.size : Int) := by omega
        have ho2 := pcOpt_no (c := 93) (s := s) (p := p2) (by omega)
        rw [ho2, Nat.add_zero] at hp3
        subst hp3
        clear ho2
        obtain ⟨Z, hZ⟩ : ∃ Z, p2 + pcLen (fun b => !(b == 93)) (s.data.toList.drop p2) = Z := ⟨_, rfl⟩
        have hle := pcLen_dropLe (fun b => !(b == 93)) s p2 (by omega)
        rw [hZ] at hle
        have HR := Lib.hid (show R = min (Z + 1) s.size by
          have h1 := HR0.out
          have h2 : (s.data.toList.drop p2).length = s.size - p2 := by rw [List.length_drop, ← size_list]
          rw [h2] at h1
          omega)
        have HZ := Lib.hid hZ
        clear hZ hle
        go_wp2
        go_loopw [1] (fun a wr => ∃ p : Nat, p ≤ s.size ∧ a = .int .i64 p ∧ p + pcLen (fun b => !(b == 93)) (s.data.toList.drop p) = Z ∧ w = wr) (fun a _ => s.size - (intOf a).toNat)
        case atStart => exact ⟨p2, by omega, rfl, HZ.out, rfl⟩
        case round =>
          obtain ⟨p, hp, rfl, hpZ, rfl⟩ := hrel
          have HpZ := Lib.hid hpZ
          clear hpZ
          have Wp : IntKind.i64.wrap ((p : Int) + 1) = (p : Int) + 1 := IntWalk.i64_in _ (by omega)
          have stop : pcLen (fun b => !(b == 93)) (s.data.toList.drop p) = 0 → min ((p : Int) + 1) (s.size : Int) = (R : Int) := fun h => by
            have h1 := HpZ.out
            have h2 := HR.out
            rw [h] at h1
            omega
          by_cases hlt : p < s.size
          · have hlti : (p : Int) < (s.size : Int) := by omega
            by_cases hx : s[p] = 93
            · have q : ((s[p].toNat : Int) != 93) = false := by rw [hx]; rfl
              have Hst := Lib.hid (stop (pcLen_atNo (p := fun b => !(b == 93)) hlt (by rw [hx]; rfl)))
              clear hx stop
              go_wp2
              go_ret
              exact ⟨ret_int Hst.out, Below.refl _ _⟩
            · have q : ((s[p].toNat : Int) != 93) = true := bne_iff_ne.2 fun h => hx (UInt8.toNat_inj.1 (by show s[p].toNat = 93; omega))
              have Hs := Lib.hid (pcLen_atYes (p := fun b => !(b == 93)) hlt (by simp [hx]))
              clear hx stop
              go_wp2
              go_roundw
              case rel => exact ⟨p + 1, by omega, by go_num, by have := HpZ.out; rw [Hs.out] at this; omega, by first | rfl | trivial⟩
              case measure => simp [intOf]; omega
          · have hlti : ¬ (p : Int) < (s.size : Int) := by omega
            have Hst := Lib.hid (stop (pcLen_atEnd _ (by omega)))
            clear stop
            go_wp2
            go_ret
            exact ⟨ret_int Hst.out, Below.refl _ _⟩
    · have qx1 : ((s[p1].toNat : Int) == 94) = false := beq_eq_false_iff_ne.2 fun h => hx1 (UInt8.toNat_inj.1 (by show s[p1].toNat = 94; omega))
      have ho1 := pcOpt_not (c := 94) hl1 hx1
      rw [ho1, Nat.add_zero] at hp2
      subst hp2
      clear hx1 ho1
      have hl2 : p1 < s.size := by omega
      have hli2 : (p1 : Int) < (s.size : Int) := by omega
      by_cases hx2 : s[p1] = 93
      · have qx2 : ((s[p1].toNat : Int) == 93) = true := by rw [hx2]; rfl
        have ho2 := pcOpt_yes (c := 93) hl2 hx2
        rw [ho2] at hp3
        have W2 : IntKind.i64.wrap ((p1 : Int) + 1) = (p3 : Int) := by rw [IntWalk.i64_in _ (by omega)]; omega
        clear hx2 ho2
        obtain ⟨Z, hZ⟩ : ∃ Z, p3 + pcLen (fun b => !(b == 93)) (s.data.toList.drop p3) = Z := ⟨_, rfl⟩
        have hle := pcLen_dropLe (fun b => !(b == 93)) s p3 (by omega)
        rw [hZ] at hle
        have HR := Lib.hid (show R = min (Z + 1) s.size by
          have h1 := HR0.out
          have h2 : (s.data.toList.drop p3).length = s.size - p3 := by rw [List.length_drop, ← size_list]
          rw [h2] at h1
          omega)
        have HZ := Lib.hid hZ
        clear hZ hle
        go_wp2
        go_loopw [1] (fun a wr => ∃ p : Nat, p ≤ s.size ∧ a = .int .i64 p ∧ p + pcLen (fun b => !(b == 93)) (s.data.toList.drop p) = Z ∧ w = wr) (fun a _ => s.size - (intOf a).toNat)
        case atStart => exact ⟨p3, by omega, rfl, HZ.out, rfl⟩
        case round =>
          obtain ⟨p, hp, rfl, hpZ, rfl⟩ := hrel
          have HpZ := Lib.hid hpZ
          clear hpZ
          have Wp : IntKind.i64.wrap ((p : Int) + 1) = (p : Int) + 1 := IntWalk.i64_in _ (by omega)
          have stop : pcLen (fun b => !(b == 93)) (s.data.toList.drop p) = 0 → min ((p : Int) + 1) (s.size : Int) = (R : Int) := fun h => by
            have h1 := HpZ.out
            have h2 := HR.out
            rw [h] at h1
            omega
          by_cases hlt : p < s.size
          · have hlti : (p : Int) < (s.size : Int) := by omega
            by_cases hx : s[p] = 93
            · have q : ((s[p].toNat : Int) != 93) = false := by rw [hx]; rfl
              have Hst := Lib.hid (stop (pcLen_atNo (p := fun b => !(b == 93)) hlt (by rw [hx]; rfl)))
              clear hx stop
              go_wp2
              go_ret
              exact ⟨ret_int Hst.out, Below.refl _ _⟩
            · have q : ((s[p].toNat : Int) != 93) = true := bne_iff_ne.2 fun h => hx (UInt8.toNat_inj.1 (by show s[p].toNat = 93; omega))
              have Hs := Lib.hid (pcLen_atYes (p := fun b => !(b == 93)) hlt (by simp [hx]))
              clear hx stop
              go_wp2
              go_roundw
              case rel => exact ⟨p + 1, by omega, by go_num, by have := HpZ.out; rw [Hs.out] at this; omega, by first | rfl | trivial⟩
              case measure => simp [intOf]; omega
          · have hlti : ¬ (p : Int) < (s.size : Int) := by omega
            have Hst := Lib.hid (stop (pcLen_atEnd _ (by omega)))
            clear stop
            go_wp2
            go_ret
            exact ⟨ret_int Hst.out, Below.refl _ _⟩
      · have qx2 : ((s[p1].toNat : Int) == 93) = false := beq_eq_false_iff_ne.2 fun h => hx2 (UInt8.toNat_inj.1 (by show s[p1].toNat = 93; omega))
        have ho2 := pcOpt_not (c := 93) hl2 hx2
        rw [ho2, Nat.add_zero] at hp3
        subst hp3
        clear hx2 ho2
        obtain ⟨Z, hZ⟩ : ∃ Z, p1 + pcLen (fun b => !(b == 93)) (s.data.toList.drop p1) = Z := ⟨_, rfl⟩
        have hle := pcLen_dropLe (fun b => !(b == 93)) s p1 (by omega)
        rw [hZ] at hle
        have HR := Lib.hid (show R = min (Z + 1) s.size by
          have h1 := HR0.out
          have h2 : (s.data.toList.drop p1).length = s.size - p1 := by rw [List.length_drop, ← size_list]
          rw [h2] at h1
          omega)
        have HZ := Lib.hid hZ
        clear hZ hle
        go_wp2
        go_loopw [1] (fun a wr => ∃ p : Nat, p ≤ s.size ∧ a = .int .i64 p ∧ p + pcLen (fun b => !(b == 93)) (s.data.toList.drop p) = Z ∧ w = wr) (fun a _ => s.size - (intOf a).toNat)
        case atStart => exact ⟨p1, by omega, rfl, HZ.out, rfl⟩
        case round =>
          obtain ⟨p, hp, rfl, hpZ, rfl⟩ := hrel
          have HpZ := Lib.hid hpZ
          clear hpZ
          have Wp : IntKind.i64.wrap ((p : Int) + 1) = (p : Int) + 1 := IntWalk.i64_in _ (by omega)
          have stop : pcLen (fun b => !(b == 93)) (s.data.toList.drop p) = 0 → min ((p : Int) + 1) (s.size : Int) = (R : Int) := fun h => by
            have h1 := HpZ.out
            have h2 := HR.out
            rw [h] at h1
            omega
          by_cases hlt : p < s.size
          · have hlti : (p : Int) < (s.size : Int) := by omega
            by_cases hx : s[p] = 93
            · have q : ((s[p].toNat : Int) != 93) = false := by rw [hx]; rfl
              have Hst := Lib.hid (stop (pcLen_atNo (p := fun b => !(b == 93)) hlt (by rw [hx]; rfl)))
              clear hx stop
              go_wp2
              go_ret
              exact ⟨ret_int Hst.out, Below.refl _ _⟩
            · have q : ((s[p].toNat : Int) != 93) = true := bne_iff_ne.2 fun h => hx (UInt8.toNat_inj.1 (by show s[p].toNat = 93; omega))
              have Hs := Lib.hid (pcLen_atYes (p := fun b => !(b == 93)) hlt (by simp [hx]))
              clear hx stop
              go_wp2
              go_roundw
              case rel => exact ⟨p + 1, by omega, by go_num, by have := HpZ.out; rw [Hs.out] at this; omega, by first | rfl | trivial⟩
              case measure => simp [intOf]; omega
          · have hlti : ¬ (p : Int) < (s.size : Int) := by omega
            have Hst := Lib.hid (stop (pcLen_atEnd _ (by omega)))
            clear stop
            go_wp2
            go_ret
            exact ⟨ret_int Hst.out, Below.refl _ _⟩
  · have hli1 : ¬ (p1 : Int) < (s.size : Int) := by omega
    have ho1 := pcOpt_no (c := 94) (s := s) (p := p1) (by omega)
    rw [ho1, Nat.add_zero] at hp2
    subst hp2
    clear ho1
    have ho2 := pcOpt_no (c := 93) (s := s) (p := p1) (by omega)
    rw [ho2, Nat.add_zero] at hp3
    subst hp3
    clear ho2
    obtain ⟨Z, hZ⟩ : ∃ Z, p1 + pcLen (fun b => !(b == 93)) (s.data.toList.drop p1) = Z := ⟨_, rfl⟩
    have hle := pcLen_dropLe (fun b => !(b == 93)) s p1 (by omega)
    rw [hZ] at hle
    have HR := Lib.hid (show R = min (Z + 1) s.size by
      have h1 := HR0.out
      have h2 : (s.data.toList.drop p1).length = s.size - p1 := by rw [List.length_drop, ← size_list]
      rw [h2] at h1
      omega)
    have HZ := Lib.hid hZ
    clear hZ hle
    go_wp2
    go_loopw [1] (fun a wr => ∃ p : Nat, p ≤ s.size ∧ a = .int .i64 p ∧ p + pcLen (fun b => !(b == 93)) (s.data.toList.drop p) = Z ∧ w = wr) (fun a _ => s.size - (intOf a).toNat)
    case atStart => exact ⟨p1, by omega, rfl, HZ.out, rfl⟩
    case round =>
      obtain ⟨p, hp, rfl, hpZ, rfl⟩ := hrel
      have HpZ := Lib.hid hpZ
      clear hpZ
      have Wp : IntKind.i64.wrap ((p : Int) + 1) = (p : Int) + 1 := IntWalk.i64_in _ (by omega)
      have stop : pcLen (fun b => !(b == 93)) (s.data.toList.drop p) = 0 → min ((p : Int) + 1) (s.size : Int) = (R : Int) := fun h => by
        have h1 := HpZ.out
        have h2 := HR.out
        rw [h] at h1
        omega
      by_cases hlt : p < s.size
      · have hlti : (p : Int) < (s.size : Int) := by omega
        by_cases hx : s[p] = 93
        · have q : ((s[p].toNat : Int) != 93) = false := by rw [hx]; rfl
          have Hst := Lib.hid (stop (pcLen_atNo (p := fun b => !(b == 93)) hlt (by rw [hx]; rfl)))
          clear hx stop
          go_wp2
          go_ret
          exact ⟨ret_int Hst.out, Below.refl _ _⟩
        · have q : ((s[p].toNat : Int) != 93) = true := bne_iff_ne.2 fun h => hx (UInt8.toNat_inj.1 (by show s[p].toNat = 93; omega))
          have Hs := Lib.hid (pcLen_atYes (p := fun b => !(b == 93)) hlt (by simp [hx]))
          clear hx stop
          go_wp2
          go_roundw
          case rel => exact ⟨p + 1, by omega, by go_num, by have := HpZ.out; rw [Hs.out] at this; omega, by first | rfl | trivial⟩
          case measure => simp [intOf]; omega
      · have hlti : ¬ (p : Int) < (s.size : Int) := by omega
        have Hst := Lib.hid (stop (pcLen_atEnd _ (by omega)))
        clear stop
        go_wp2
        go_ret
        exact ⟨ret_int Hst.out, Below.refl _ _⟩

theorem pcPart_ten (d : UInt8) (rx : Bool) (t : List UInt8) (p : Nat) : pcPart d rx 10 t p = ([], p, 2) := by
  unfold pcPart
  rw [if_neg (by decide)]
  simp only [show (rx && (10 : UInt8) == 91) = false by cases rx <;> rfl, Bool.false_eq_true, if_false]
  rw [show pcLen (fun b => !(b == 10)) (((10 : UInt8) :: t).take 1) = 0 from rfl]
  simp
theorem pcPart_plain (d : UInt8) (rx : Bool) (c : UInt8) (t : List UInt8) (p : Nat) (h1 : ¬ c = 10) (h2 : ¬ c = 92) (h3 : (rx && c == 91) = false) : pcPart d rx c t p = ([c], p + 1, 0) := by
  unfold pcPart
  rw [if_neg h2]
  simp only [h3, Bool.false_eq_true, if_false]
  rw [show (c :: t).take 1 = [c] from rfl, pcLen_yes (by simp [h1]), pcLen_nil]
  simp
theorem pcPart_bs_end (d : UInt8) (rx : Bool) (p : Nat) : pcPart d rx 92 [] p = ([], p + 1, 5) := rfl
theorem pcPart_bs (d : UInt8) (rx : Bool) (x : UInt8) (u : List UInt8) (p : Nat) : pcPart d rx 92 (x :: u) p = if x = d then ([x], p + 2, 0) else if (x == 10 && rx) = true then ([], p + 1, 2) else ([92, x], p + 2, 0) := rfl
theorem pcPart_brk (d : UInt8) (t : List UInt8) (p i : Nat) (h : pcLen (fun b => !(b == 10)) (((91 : UInt8) :: t).take (pcBrk t)) = i) : pcPart d true 91 t p = if i < pcBrk t then ([], p + i, 2) else (((91 : UInt8) :: t).take (pcBrk t), p + pcBrk t, 0) := by
  unfold pcPart
  rw [if_neg (by decide)]
  simp only [show (true && (91 : UInt8) == 91) = true from rfl, if_true, h]
end Go.Proofs.YtbhmpdbcjchdfaaDoor
