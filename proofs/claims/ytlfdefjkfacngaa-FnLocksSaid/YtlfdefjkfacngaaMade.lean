/-
  Contracts for what a key or a value is made of: isMadeOf and l3Bytes, and the validity of keys, values and contents.
-/
import Derived.Test.YtlfdefjkfacngaaLeaf
namespace Go.Proofs.Ytlfdefjkfacngaa
open Go.RowKit
set_option linter.unusedVariables false

theorem data_at (s : ByteArray) (k : Nat) (h : k < s.size) : s.data.toList[k]'(by rw [← Lib.size_eq]; exact h) = s[k] := rfl

set_option maxRecDepth 100000 in
set_option maxHeartbeats 1000000 in
theorem isMadeOf_any (s m : ByteArray) (w : World) (hs : s.size ≤ 1048576) :
    Calls Try.prog 111 #[.string s, .string m] w fun e w' => e = .returned (.bool (madeB m.data.toList s)) ∧ w = w' := by
  go_enter Try.func111, Try.ntmps111
  go_wp2
  go_loop [10] (fun i => ∃ k : Nat, k ≤ s.size ∧ i = .int .i64 k ∧ (s.data.toList.take k).all (okB m.data.toList) = true) (fun i => s.size - (intOf i).toNat)
  case atStart => exact ⟨0, Nat.zero_le _, rfl, rfl⟩
  case round =>
    obtain ⟨k, hk, rfl, hall⟩ := hrel
    have HA := Lib.hid hall
    clear hall
    by_cases hlt : k < s.size
    · have hl : k < s.data.toList.length := by rw [← Lib.size_eq]; exact hlt
      have HT := Lib.hid (take_all_succ (okB m.data.toList) s.data.toList k hl)
      have HBad := Lib.hid (all_bad (okB m.data.toList) s.data.toList k hl)
      have hcd : s.data.toList[k] = s[k] := rfl
      have HCD := Lib.hid hcd
      clear hcd
      obtain ⟨c, hc⟩ : ∃ c, c = s[k] := ⟨_, rfl⟩
      have hidx := index_lt m.data.toList c
      have HC := Lib.hid hc
      cases hp : plainB c with
      | true =>
        have hok : okB m.data.toList c = true := by simp [okB, hp]
        have hrel' : (s.data.toList.take (k + 1)).all (okB m.data.toList) = true := by rw [HT.out, HA.out, HCD.out, ← HC.out, hok]; rfl
        have HR := Lib.hid hrel'
        have h8 : (c.toNat : Int) < 256 := by have := c.toNat_lt; omega
        simp only [plainB, Bool.or_eq_true, Bool.and_eq_true, decide_eq_true_eq] at hp
        clear hrel' hok hidx
        rw [hc] at hp h8
        clear hc
        by_cases ha : 97 ≤ (s[k].toNat : Int)
        · by_cases hb : (s[k].toNat : Int) ≤ 122
          · clear hp
            go_wp2
            go_round
            case rel => exact ⟨k + 1, by omega, by go_num, HR.out⟩
            case measure => simp [intOf]; omega
          · obtain ⟨h3, h4⟩ : 48 ≤ (s[k].toNat : Int) ∧ (s[k].toNat : Int) ≤ 57 := by omega
            omega
        · obtain ⟨h3, h4⟩ : 48 ≤ (s[k].toNat : Int) ∧ (s[k].toNat : Int) ≤ 57 := by omega
          clear hp
          go_wp2
          go_round
          case rel => exact ⟨k + 1, by omega, by go_num, HR.out⟩
          case measure => simp [intOf]; omega
      | false =>
        have hp' := hp
        simp only [plainB, Bool.or_eq_false_iff, Bool.and_eq_false_iff, decide_eq_false_iff_not] at hp'
        obtain ⟨hpa, hpb⟩ := hp'
        have h8 : (c.toNat : Int) < 256 := by have := c.toNat_lt; omega
        have hok : okB m.data.toList c = m.data.toList.contains c := by simp [okB, hp]
        have HOK := Lib.hid hok
        have HI := Lib.hid (indexByte_any m s[k])
        rw [← hc] at HI
        clear hok hp
        cases hm : m.data.toList.contains c with
        | true =>
          have hrel' : (s.data.toList.take (k + 1)).all (okB m.data.toList) = true := by rw [HT.out, HA.out, HCD.out, ← HC.out, HOK.out, hm]; rfl
          have HR := Lib.hid hrel'
          rw [hm] at hidx
          rw [hc] at hidx HI hpa hpb h8
          clear hrel' hm hc
          by_cases ha : 97 ≤ (s[k].toNat : Int)
          · by_cases hb : 48 ≤ (s[k].toNat : Int)
            · have hpa' : ¬ (s[k].toNat : Int) ≤ 122 := by omega
              have hpb' : ¬ (s[k].toNat : Int) ≤ 57 := by omega
              clear hpa hpb
              go_wp2_with fail
              refine (HI.out _).mono ?_
              rintro e w' ⟨rfl, rfl⟩
              go_wp2
              go_round
              case rel => exact ⟨k + 1, by omega, by go_num, HR.out⟩
              case measure => simp [intOf]; omega
            · omega
          · by_cases hb : 48 ≤ (s[k].toNat : Int)
            · have hpb' : ¬ (s[k].toNat : Int) ≤ 57 := by omega
              clear hpa hpb
              go_wp2_with fail
              refine (HI.out _).mono ?_
              rintro e w' ⟨rfl, rfl⟩
              go_wp2
              go_round
              case rel => exact ⟨k + 1, by omega, by go_num, HR.out⟩
              case measure => simp [intOf]; omega
            · clear hpa hpb
              go_wp2_with fail
              refine (HI.out _).mono ?_
              rintro e w' ⟨rfl, rfl⟩
              go_wp2
              go_round
              case rel => exact ⟨k + 1, by omega, by go_num, HR.out⟩
              case measure => simp [intOf]; omega
        | false =>
          have hno : madeB m.data.toList s = false := HBad.out (by rw [HCD.out, ← HC.out, HOK.out, hm])
          have HNO := Lib.hid (ret_bool hno.symm)
          rw [hm] at hidx
          rw [hc] at hidx HI hpa hpb h8
          clear hno hm hc
          by_cases ha : 97 ≤ (s[k].toNat : Int)
          · by_cases hb : 48 ≤ (s[k].toNat : Int)
            · have hpa' : ¬ (s[k].toNat : Int) ≤ 122 := by omega
              have hpb' : ¬ (s[k].toNat : Int) ≤ 57 := by omega
              clear hpa hpb
              go_wp2_with fail
              refine (HI.out _).mono ?_
              rintro e w' ⟨rfl, rfl⟩
              go_wp2
              go_ret
              exact ⟨HNO.out, rfl⟩
            · omega
          · by_cases hb : 48 ≤ (s[k].toNat : Int)
            · have hpb' : ¬ (s[k].toNat : Int) ≤ 57 := by omega
              clear hpa hpb
              go_wp2_with fail
              refine (HI.out _).mono ?_
              rintro e w' ⟨rfl, rfl⟩
              go_wp2
              go_ret
              exact ⟨HNO.out, rfl⟩
            · clear hpa hpb
              go_wp2_with fail
              refine (HI.out _).mono ?_
              rintro e w' ⟨rfl, rfl⟩
              go_wp2
              go_ret
              exact ⟨HNO.out, rfl⟩
    · have hyes : madeB m.data.toList s = true := by
        have := HA.out
        rwa [List.take_of_length_le (by rw [← Lib.size_eq]; omega)] at this
      have HY := Lib.hid (ret_bool hyes.symm)
      clear hyes
      go_wp2
      go_ret
      exact ⟨HY.out, rfl⟩

set_option maxRecDepth 100000 in
set_option maxHeartbeats 1000000 in
theorem l3Bytes_any (s m : ByteArray) (w : World) (hs : s.size ≤ 1048576) (hm : m.size ≤ 1000) :
    Calls Try.prog 110 #[.string s, .string m] w fun e w' => e = .returned (.bool (madeB m.data.toList s)) ∧ ∃ n, w' = w.drewN n := by
  go_enter Try.func110, Try.ntmps110
  go_wp2
  go_loopw [5] (fun i wr => ∃ k : Nat, k ≤ s.size ∧ i = .int .i64 k ∧ (s.data.toList.take k).all (okB m.data.toList) = true ∧ ∃ n, wr = w.drewN n) (fun i _ => s.size - (intOf i).toNat)
  case atStart => exact ⟨0, Nat.zero_le _, rfl, rfl, 0, rfl⟩
  case round =>
    obtain ⟨k, hk, rfl, hall, nr, rfl⟩ := hrel
    have HA := Lib.hid hall
    clear hall
    by_cases hlt : k < s.size
    · have hl : k < s.data.toList.length := by rw [← Lib.size_eq]; exact hlt
      have HT := Lib.hid (take_all_succ (okB m.data.toList) s.data.toList k hl)
      have HBad := Lib.hid (all_bad (okB m.data.toList) s.data.toList k hl)
      have hcd : s.data.toList[k] = s[k] := rfl
      have HCD := Lib.hid hcd
      clear hcd
      have HS := Lib.hid (show okB m.data.toList s[k] = (plainB s[k] || m.data.toList.contains s[k]) from rfl)
      have HCon := Lib.hid fun j h => contains_take_succ m.data.toList s[k] j h
      have HML := Lib.hid (Lib.size_eq m)
      have HF := Lib.hid (fun L : List UInt8 => (List.take_length (l := L)))
      cases hp : plainB s[k]
      all_goals have HPB := Lib.hid hp
      all_goals
        simp only [plainB, Bool.or_eq_true, Bool.and_eq_true, decide_eq_true_eq, Bool.or_eq_false_iff, Bool.and_eq_false_iff, decide_eq_false_iff_not] at hp
        by_cases ha : 97 ≤ (s[k].toNat : Int)
        all_goals by_cases hb : (s[k].toNat : Int) ≤ 122
        all_goals by_cases hc : 48 ≤ (s[k].toNat : Int)
        all_goals by_cases hd : (s[k].toNat : Int) ≤ 57
        all_goals first
          | omega
          | skip
      all_goals
        clear hp
        go_wp2
        go_loopw [6, 7] (fun ok j wr => ∃ q : Nat, q ≤ m.size ∧ j = .int .i64 q ∧ (∃ b : Bool, ok = .bool b ∧ Hid (b = (plainB s[k] || (m.data.toList.take q).contains s[k]))) ∧ ∃ n, wr = w.drewN n) (fun _ j _ => m.size - (intOf j).toNat)
        case atStart => exact ⟨0, Nat.zero_le _, rfl, ⟨_, rfl, show _ = _ by rw [HPB.out]; rfl⟩, _, rfl⟩
        case round =>
          obtain ⟨q, hq, rfl, ⟨b, rfl, HB⟩, nn, rfl⟩ := hrel
          by_cases hqm : q < m.size
          · have hql : q < m.data.toList.length := by rw [← HML.out]; exact hqm
            have HC2 := Lib.hid (HCon.out q hql)
            cases b
            · by_cases he : (s[k].toNat : Int) = (m[q].toNat : Int)
              · have HN := Lib.hid (show true = (plainB s[k] || (m.data.toList.take (q + 1)).contains s[k]) by
                  rw [HC2.out, show (decide ((s[k].toNat : Int) = (m.data.toList[q].toNat : Int))) = true from decide_eq_true he]; simp)
                have hd : ((s[k].toNat : Int) == (m[q].toNat : Int)) = true := beq_iff_eq.2 he
                clear he
                go_wp2_with fail
                go_quiet (fail)
                go_wp2
                go_roundw
                case rel => exact ⟨q + 1, by omega, by go_num, ⟨_, rfl, HN⟩, _, rfl⟩
                case measure => simp [intOf]; omega
              · have HN := Lib.hid (show false = (plainB s[k] || (m.data.toList.take (q + 1)).contains s[k]) by
                  rw [HC2.out, show (decide ((s[k].toNat : Int) = (m.data.toList[q].toNat : Int))) = false from decide_eq_false he, Bool.or_false]; exact HB.out)
                have hd : ((s[k].toNat : Int) == (m[q].toNat : Int)) = false := beq_eq_false_iff_ne.2 he
                clear he
                go_wp2_with fail
                go_quiet (fail)
                go_wp2
                go_roundw
                case rel => exact ⟨q + 1, by omega, by go_num, ⟨_, rfl, HN⟩, _, rfl⟩
                case measure => simp [intOf]; omega
            · have HN := Lib.hid (show true = (plainB s[k] || (m.data.toList.take (q + 1)).contains s[k]) by
                rw [HC2.out, ← Bool.or_assoc, ← HB.out]; rfl)
              go_wp2_with fail
              go_quiet (fail)
              go_wp2
              go_roundw
              case rel => exact ⟨q + 1, by omega, by go_num, ⟨_, rfl, HN⟩, _, rfl⟩
              case measure => simp [intOf]; omega
          · have hqe : q = m.size := by omega
            have HOK := Lib.hid (show b = okB m.data.toList s[k] by
              rw [HB.out, HS.out, hqe, List.take_of_length_le (by rw [← HML.out]; omega)])
            clear hqe
            cases b
            · have HNO := Lib.hid (ret_bool (HBad.out (by rw [HCD.out]; exact HOK.out.symm)).symm)
              go_wp2
              go_ret
              exact ⟨HNO.out, _, rfl⟩
            · have HR := Lib.hid (show (s.data.toList.take (k + 1)).all (okB m.data.toList) = true by rw [HT.out, HA.out, HCD.out, ← HOK.out]; rfl)
              go_wp2
              go_roundw
              case rel => exact ⟨k + 1, by omega, by go_num, HR.out, _, rfl⟩
              case measure => simp [intOf]; omega
    · have hyes : madeB m.data.toList s = true := by
        have := HA.out
        rwa [List.take_of_length_le (by rw [← Lib.size_eq]; omega)] at this
      have HY := Lib.hid (ret_bool hyes.symm)
      clear hyes
      go_wp2
      go_ret
      exact ⟨HY.out, _, rfl⟩

theorem madeB_mk (m : List UInt8) (s : ByteArray) : madeB (⟨m.toArray⟩ : ByteArray).data.toList s = madeB m s := rfl

theorem goodKey_any (s : ByteArray) (w : World) (hs : s.size ≤ 1048576) :
    Calls Try.prog 100 #[.string s] w fun e w' => e = .returned (.bool (keyB s)) ∧ w = w' := by
  by_cases h0 : s.toList = []
  · have hz : s.size = 0 := by rw [Lib.size_eq, ← Lib.toList_data, h0]; rfl
    have hno : keyB s = false := by simp [keyB, hz]
    rw [hno]
    have hne : (!s.toList.isEmpty) = false := by simp [h0]
    clear hno
    go_enter Try.func100, Try.ntmps100
    go_wp2
    go_ret
    exact ⟨rfl, rfl⟩
  · have hz : 1 ≤ s.size := by
      rw [Lib.size_eq, ← Lib.toList_data]
      exact List.length_pos_iff.2 h0
    have hne : (!s.toList.isEmpty) = true := by simp [h0]
    by_cases h12 : s.size ≤ 12
    · have hk : keyB s = madeB keyMarks s := by simp [keyB, hz, h12]
      have HK := Lib.hid (ret_bool hk.symm)
      have HC := Lib.hid (fun W => isMadeOf_any s ⟨#[46, 47]⟩ W hs)
      clear hk
      go_enter Try.func100, Try.ntmps100
      go_wp2_with fail
      refine (HC.out _).mono ?_
      rintro e w' ⟨rfl, rfl⟩
      go_wp2
      go_ret
      exact ⟨HK.out, rfl⟩
    · have hno : keyB s = false := by simp [keyB, h12]
      rw [hno]
      clear hno
      go_enter Try.func100, Try.ntmps100
      go_wp2
      go_ret
      exact ⟨rfl, rfl⟩

theorem l3Key_any (s : ByteArray) (w : World) (hs : s.size ≤ 1048576) :
    Calls Try.prog 98 #[.string s] w fun e w' => e = .returned (.bool (keyB s)) ∧ ∃ n, w' = w.drewN n := by
  have HI := Lib.hid (fun W => l1In_any (s.size : Int) 1 12 W)
  by_cases h : 1 ≤ s.size ∧ s.size ≤ 12
  · have hk : keyB s = madeB keyMarks s := by simp [keyB, h]
    have HK := Lib.hid (ret_bool hk.symm)
    have HC := Lib.hid (fun W => l3Bytes_any s ⟨#[46, 47]⟩ W hs (by decide))
    rw [inB_mk (by omega)] at HI
    clear hk
    go_enter Try.func98, Try.ntmps98
    go_wp2_with fail
    refine (HI.out _).mono ?_
    rintro e w' ⟨rfl, rfl⟩
    go_wp2_with fail
    refine (HC.out _).mono ?_
    rintro e w' ⟨rfl, n, rfl⟩
    go_wp2
    go_ret
    exact ⟨HK.out, n, rfl⟩
  · have hno : keyB s = false := by
      simp only [keyB, Bool.and_eq_false_iff, decide_eq_false_iff_not]
      omega
    rw [hno]
    rw [inB_not (by omega)] at HI
    clear hno
    go_enter Try.func98, Try.ntmps98
    go_wp2_with fail
    refine (HI.out _).mono ?_
    rintro e w' ⟨rfl, rfl⟩
    go_wp2
    go_ret
    exact ⟨rfl, 0, rfl⟩

end Go.Proofs.Ytlfdefjkfacngaa
