/- LexB2 LexB3 LexB4: told at each. -/
import Derived.Test.YtgbmakpdjdigmaaGreatDoorG18

/- The reference's char at a first byte that asks for 2 bytes: it returns that character and its length, or 0 and 0; memory untouched; the place lies within a text of at most 4000 bytes. -/
namespace Go.Proofs.YtgbmakpdjdigmaaGreatDoor
open Go.RowKit
set_option maxRecDepth 100000 in
set_option maxHeartbeats 1000000 in
theorem char_two (s : ByteArray) (i : Nat) (hi : i < s.size) (hs : s.size ≤ 4000) (hc : 194 ≤ bt s i) (hd : bt s i < 224) (w : World) :
    Calls Tryz.prog 82 #[.string s, .int .i64 i] w fun e w' => e = .returned (.tuple #[.int .i64 (chr s i).1, .int .i64 (chr s i).2]) ∧ w' = w := by
  have hx : chr s i = chrN s i 2 128 (bt s i - 192) := by
    simp only [chr]
    rw [if_neg (by omega), if_pos ⟨hc, hd⟩]
  have hb := bt_get s i hi
  rw [hx]
  clear hx
  by_cases hl : s.size < i + 2
  · rw [chrN_short hl]
    rw [hb] at hc hd
    clear hb
    go_enter Tryz.func82, Tryz.ntmps82
    go_wp2
    go_ret2
    exact ⟨rfl, rfl⟩
  · generalize hv : chrN s i 2 128 (bt s i - 192) = v
    have HV : Hid (chrN s i 2 128 (s[i].toNat - 192) = v) := by rw [← hb]; exact hv
    clear hv
    rw [hb] at hc hd
    clear hb
    have hk128 : decide ((s[i].toNat : Int) < 128) = false := by simp; omega
    have hk224 : decide ((s[i].toNat : Int) < 224) = true := by simp; omega
    have hkl : decide ((s.size : Int) < (i : Int) + 2) = false := by simp; omega
    go_enter Tryz.func82, Tryz.ntmps82
    go_wp2
    go_loop [6, 9, 10] (fun c k _ => ∃ m cv : Nat, m ≤ 1 ∧ k = .int .i64 (m + 1 : Nat) ∧ c = .int .i64 cv ∧ contN s i (s[i].toNat - 192) m = some cv) (fun _ k _ => 2 - (intOf k).toNat)
    case atStart => exact ⟨0, _, by omega, rfl, by go_num, rfl⟩
    case round =>
      obtain ⟨m, cv, hm, rfl, rfl, hcv⟩ := hrel
      have hbd := contN_bd (by omega) (by omega) hcv
      unfold chrTop at hbd
      by_cases hlt : m + 1 < 2
      · have hj : i + (m + 1) < s.size := by omega
        have hbj := bt_get s (i + (m + 1)) hj
        have hq : s[i + (m + 1)].toNat < 256 := UInt8.toNat_lt _
        by_cases hbad : bt s (i + 1 + m) < 128 ∨ 191 < bt s (i + 1 + m)
        · have hv : v = (0, 0) := by rw [← HV.out, chrN_none (contN_none_le (contN_bad hcv hbad) (by omega))]
          subst hv
          clear HV hcv
          rw [show i + 1 + m = i + (m + 1) from by omega, hbj] at hbad
          clear hbj
          rcases hbad with hbad | hbad
          all_goals
            go_wp2
            go_ret2
            exact ⟨rfl, rfl⟩
        · have HG : Hid (contN s i (s[i].toNat - 192) (m + 1) = some (cv * 64 + s[i + (m + 1)].toNat - 128)) := by
            have := contN_good hcv (by omega) (by omega)
            rw [show i + 1 + m = i + (m + 1) from by omega, hbj] at this
            exact this
          rw [show i + 1 + m = i + (m + 1) from by omega, hbj] at hbad
          have hb1 : 128 ≤ s[i + (m + 1)].toNat := by omega
          have hb2 : s[i + (m + 1)].toNat ≤ 191 := by omega
          clear hbad hbj hcv HV
          go_wp2
          go_round
          case rel => exact ⟨m + 1, _, by omega, by go_num, by go_num, HG.out⟩
          case measure => simp [intOf]; omega
      · have hm' : m = 2 - 1 := by omega
        subst hm'
        by_cases hout : cv < 128 ∨ 1114111 < cv ∨ (55296 ≤ cv ∧ cv < 57344)
        · have hv : v = (0, 0) := by rw [← HV.out, chrN_out hcv hout]
          subst hv
          clear HV hcv
          rcases hout with ho | ho | ⟨ho, ho'⟩
          all_goals
            go_wp2
            go_ret2
            exact ⟨rfl, rfl⟩
        · have hv : v = (cv, 2) := by rw [← HV.out, chrN_in (by omega) hcv hout]
          subst hv
          have hl1 : 128 ≤ cv := by omega
          have hl2 : cv ≤ 1114111 := by omega
          have hl3 : cv < 55296 ∨ 57344 ≤ cv := by omega
          clear HV hcv hout
          rcases hl3 with hl3 | hl3
          all_goals
            go_wp2
            go_ret2
            exact ⟨rfl, rfl⟩

end Go.Proofs.YtgbmakpdjdigmaaGreatDoor

/- The reference's char at a first byte that asks for 3 bytes: it returns that character and its length, or 0 and 0; memory untouched; the place lies within a text of at most 4000 bytes. -/
namespace Go.Proofs.YtgbmakpdjdigmaaGreatDoor
open Go.RowKit
set_option maxRecDepth 100000 in
set_option maxHeartbeats 1000000 in
theorem char_three (s : ByteArray) (i : Nat) (hi : i < s.size) (hs : s.size ≤ 4000) (hc : 224 ≤ bt s i) (hd : bt s i < 240) (w : World) :
    Calls Tryz.prog 82 #[.string s, .int .i64 i] w fun e w' => e = .returned (.tuple #[.int .i64 (chr s i).1, .int .i64 (chr s i).2]) ∧ w' = w := by
  have hx : chr s i = chrN s i 3 2048 (bt s i - 224) := by
    simp only [chr]
    rw [if_neg (by omega), if_neg (by omega), if_pos ⟨hc, hd⟩]
  have hb := bt_get s i hi
  rw [hx]
  clear hx
  by_cases hl : s.size < i + 3
  · rw [chrN_short hl]
    rw [hb] at hc hd
    clear hb
    go_enter Tryz.func82, Tryz.ntmps82
    go_wp2
    go_ret2
    exact ⟨rfl, rfl⟩
  · generalize hv : chrN s i 3 2048 (bt s i - 224) = v
    have HV : Hid (chrN s i 3 2048 (s[i].toNat - 224) = v) := by rw [← hb]; exact hv
    clear hv
    rw [hb] at hc hd
    clear hb
    have hk128 : decide ((s[i].toNat : Int) < 128) = false := by simp; omega
    have hk224 : decide ((s[i].toNat : Int) < 224) = false := by simp; omega
    have hk240 : decide ((s[i].toNat : Int) < 240) = true := by simp; omega
    have hkl : decide ((s.size : Int) < (i : Int) + 3) = false := by simp; omega
    go_enter Tryz.func82, Tryz.ntmps82
    go_wp2
    go_loop [6, 9, 10] (fun c k _ => ∃ m cv : Nat, m ≤ 2 ∧ k = .int .i64 (m + 1 : Nat) ∧ c = .int .i64 cv ∧ contN s i (s[i].toNat - 224) m = some cv) (fun _ k _ => 3 - (intOf k).toNat)
    case atStart => exact ⟨0, _, by omega, rfl, by go_num, rfl⟩
    case round =>
      obtain ⟨m, cv, hm, rfl, rfl, hcv⟩ := hrel
      have hbd := contN_bd (by omega) (by omega) hcv
      unfold chrTop at hbd
      by_cases hlt : m + 1 < 3
      · have hj : i + (m + 1) < s.size := by omega
        have hbj := bt_get s (i + (m + 1)) hj
        have hq : s[i + (m + 1)].toNat < 256 := UInt8.toNat_lt _
        by_cases hbad : bt s (i + 1 + m) < 128 ∨ 191 < bt s (i + 1 + m)
        · have hv : v = (0, 0) := by rw [← HV.out, chrN_none (contN_none_le (contN_bad hcv hbad) (by omega))]
          subst hv
          clear HV hcv
          rw [show i + 1 + m = i + (m + 1) from by omega, hbj] at hbad
          clear hbj
          rcases hbad with hbad | hbad
          all_goals
            go_wp2
            go_ret2
            exact ⟨rfl, rfl⟩
        · have HG : Hid (contN s i (s[i].toNat - 224) (m + 1) = some (cv * 64 + s[i + (m + 1)].toNat - 128)) := by
            have := contN_good hcv (by omega) (by omega)
            rw [show i + 1 + m = i + (m + 1) from by omega, hbj] at this
            exact this
          rw [show i + 1 + m = i + (m + 1) from by omega, hbj] at hbad
          have hb1 : 128 ≤ s[i + (m + 1)].toNat := by omega
          have hb2 : s[i + (m + 1)].toNat ≤ 191 := by omega
          clear hbad hbj hcv HV
          go_wp2
          go_round
          case rel => exact ⟨m + 1, _, by omega, by go_num, by go_num, HG.out⟩
          case measure => simp [intOf]; omega
      · have hm' : m = 3 - 1 := by omega
        subst hm'
        by_cases hout : cv < 2048 ∨ 1114111 < cv ∨ (55296 ≤ cv ∧ cv < 57344)
        · have hv : v = (0, 0) := by rw [← HV.out, chrN_out hcv hout]
          subst hv
          clear HV hcv
          rcases hout with ho | ho | ⟨ho, ho'⟩
          all_goals
            go_wp2
            go_ret2
            exact ⟨rfl, rfl⟩
        · have hv : v = (cv, 3) := by rw [← HV.out, chrN_in (by omega) hcv hout]
          subst hv
          have hl1 : 2048 ≤ cv := by omega
          have hl2 : cv ≤ 1114111 := by omega
          have hl3 : cv < 55296 ∨ 57344 ≤ cv := by omega
          clear HV hcv hout
          rcases hl3 with hl3 | hl3
          all_goals
            go_wp2
            go_ret2
            exact ⟨rfl, rfl⟩

end Go.Proofs.YtgbmakpdjdigmaaGreatDoor

/- The reference's char at a first byte that asks for 4 bytes: it returns that character and its length, or 0 and 0; memory untouched; the place lies within a text of at most 4000 bytes. -/
namespace Go.Proofs.YtgbmakpdjdigmaaGreatDoor
open Go.RowKit
set_option maxRecDepth 100000 in
set_option maxHeartbeats 1000000 in
theorem char_four (s : ByteArray) (i : Nat) (hi : i < s.size) (hs : s.size ≤ 4000) (hc : 240 ≤ bt s i) (hd : bt s i < 245) (w : World) :
    Calls Tryz.prog 82 #[.string s, .int .i64 i] w fun e w' => e = .returned (.tuple #[.int .i64 (chr s i).1, .int .i64 (chr s i).2]) ∧ w' = w := by
  have hx : chr s i = chrN s i 4 65536 (bt s i - 240) := by
    simp only [chr]
    rw [if_neg (by omega), if_neg (by omega), if_neg (by omega), if_pos ⟨hc, hd⟩]
  have hb := bt_get s i hi
  rw [hx]
  clear hx
  by_cases hl : s.size < i + 4
  · rw [chrN_short hl]
    rw [hb] at hc hd
    clear hb
    go_enter Tryz.func82, Tryz.ntmps82
    go_wp2
    go_ret2
    exact ⟨rfl, rfl⟩
  · generalize hv : chrN s i 4 65536 (bt s i - 240) = v
    have HV : Hid (chrN s i 4 65536 (s[i].toNat - 240) = v) := by rw [← hb]; exact hv
    clear hv
    rw [hb] at hc hd
    clear hb
    have hk128 : decide ((s[i].toNat : Int) < 128) = false := by simp; omega
    have hk224 : decide ((s[i].toNat : Int) < 224) = false := by simp; omega
    have hk240 : decide ((s[i].toNat : Int) < 240) = false := by simp; omega
    have hk245 : decide ((s[i].toNat : Int) < 245) = true := by simp; omega
    have hkl : decide ((s.size : Int) < (i : Int) + 4) = false := by simp; omega
    go_enter Tryz.func82, Tryz.ntmps82
    go_wp2
    go_loop [6, 9, 10] (fun c k _ => ∃ m cv : Nat, m ≤ 3 ∧ k = .int .i64 (m + 1 : Nat) ∧ c = .int .i64 cv ∧ contN s i (s[i].toNat - 240) m = some cv) (fun _ k _ => 4 - (intOf k).toNat)
    case atStart => exact ⟨0, _, by omega, rfl, by go_num, rfl⟩
    case round =>
      obtain ⟨m, cv, hm, rfl, rfl, hcv⟩ := hrel
      have hbd := contN_bd (by omega) (by omega) hcv
      unfold chrTop at hbd
      by_cases hlt : m + 1 < 4
      · have hj : i + (m + 1) < s.size := by omega
        have hbj := bt_get s (i + (m + 1)) hj
        have hq : s[i + (m + 1)].toNat < 256 := UInt8.toNat_lt _
        by_cases hbad : bt s (i + 1 + m) < 128 ∨ 191 < bt s (i + 1 + m)
        · have hv : v = (0, 0) := by rw [← HV.out, chrN_none (contN_none_le (contN_bad hcv hbad) (by omega))]
          subst hv
          clear HV hcv
          rw [show i + 1 + m = i + (m + 1) from by omega, hbj] at hbad
          clear hbj
          rcases hbad with hbad | hbad
          all_goals
            go_wp2
            go_ret2
            exact ⟨rfl, rfl⟩
        · have HG : Hid (contN s i (s[i].toNat - 240) (m + 1) = some (cv * 64 + s[i + (m + 1)].toNat - 128)) := by
            have := contN_good hcv (by omega) (by omega)
            rw [show i + 1 + m = i + (m + 1) from by omega, hbj] at this
            exact this
          rw [show i + 1 + m = i + (m + 1) from by omega, hbj] at hbad
          have hb1 : 128 ≤ s[i + (m + 1)].toNat := by omega
          have hb2 : s[i + (m + 1)].toNat ≤ 191 := by omega
          clear hbad hbj hcv HV
          go_wp2
          go_round
          case rel => exact ⟨m + 1, _, by omega, by go_num, by go_num, HG.out⟩
          case measure => simp [intOf]; omega
      · have hm' : m = 4 - 1 := by omega
        subst hm'
        by_cases hout : cv < 65536 ∨ 1114111 < cv ∨ (55296 ≤ cv ∧ cv < 57344)
        · have hv : v = (0, 0) := by rw [← HV.out, chrN_out hcv hout]
          subst hv
          clear HV hcv
          rcases hout with ho | ho | ⟨ho, ho'⟩
          all_goals
            go_wp2
            go_ret2
            exact ⟨rfl, rfl⟩
        · have hv : v = (cv, 4) := by rw [← HV.out, chrN_in (by omega) hcv hout]
          subst hv
          have hl1 : 65536 ≤ cv := by omega
          have hl2 : cv ≤ 1114111 := by omega
          have hl3 : cv < 55296 ∨ 57344 ≤ cv := by omega
          clear HV hcv hout
          rcases hl3 with hl3 | hl3
          · omega
          · go_wp2
            go_ret2
            exact ⟨rfl, rfl⟩

end Go.Proofs.YtgbmakpdjdigmaaGreatDoor
