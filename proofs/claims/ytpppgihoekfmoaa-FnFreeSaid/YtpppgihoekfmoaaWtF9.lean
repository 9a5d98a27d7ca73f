/-
  One act on a watch: l10Do of the model, actOnWatch of the program.
-/
import Derived.Test.YtpppgihoekfmoaaWtF6
import Derived.Test.YtpppgihoekfmoaaWtF7
import Derived.Deep.DeepCutAuto
namespace Go.Proofs.Ytpppgihoekfmoaa.Wt
open Go.RowKit
set_option linter.unusedVariables false
set_option linter.unusedSimpArgs false

set_option maxRecDepth 100000 in
set_option maxHeartbeats 8000000 in
theorem specDo_any (tm : Int) (A A' : Option Addr) (n c n' c' : Nat) (is : List Int) (ls : List (Int × Int × Int)) (s0 s1 s2 : Int) (B : Nat) (w : World) (hn : is.length = n) (hn' : ls.length = n') (h : CksB w B A is) (h' : LesB w B A' ls) (hB : B ≤ w.heap.size) :
    Calls Try.prog 29 #[.agg #[.int .i64 tm, .slice A n c, .slice A' n' c'], .agg #[.int .i64 s0, .int .i64 s1, .int .i64 s2]] w (WAPost (doW tm is ls (s0, s1, s2)) w) := by
  have HB0 := Lib.hid (below3 w (.cells #[.int .i64 tm, .slice A n c, .slice A' n' c'] 30) (.cells #[.int .i64 s0, .int .i64 s1, .int .i64 s2] 36) (.cells #[.int .i64 0, .slice none 0 0, .slice none 0 0] 30))
  have bR_0 := Lib.hid (alloc_snd (w.alloc (.cells #[.int .i64 tm, .slice A n c, .slice A' n' c'] 30)) (.cells #[.int .i64 s0, .int .i64 s1, .int .i64 s2] 36) (.cells #[.int .i64 0, .slice none 0 0, .slice none 0 0] 30))
  simp only [World.size_alloc] at bR_0
  by_cases h1 : s0 = 1
  · subst h1
    rw [show doW tm is ls (1, s1, s2) = askW tm is ls s1 s2 by simp [doW]]
    have hf := (fun W (hW : Below w.heap.size w W) => specAskLease_any tm A A' n c n' c' is ls s1 s2 B W hn hn' (h.below (hW.mono hB)) (h'.below (hW.mono hB)) (Nat.le_trans hB hW.size))
    obtain ⟨⟨an, ai, al, ok⟩, hr⟩ : ∃ r, r = askW tm is ls s1 s2 := ⟨_, rfl⟩
    simp only [← hr] at hf
    rw [← hr, WAPost_un]
    simp only [WAPost_un] at hf
    have HF := Lib.hid hf
    clear hf hr h h' hn hn'
    go_enter Try.func29, Try.ntmps29
    go_wp2_with fail
    refine (HF.out _ HB0.out).mono ?_
    rintro e w1 ⟨A1, c1, A2, c2, rfl, hoi, hol, ha1⟩
    have HB1 := Lib.hid (HB0.out.trans (ha1.mono HB0.out.size))
    have bR_1 := Lib.hid ((ha1.block (w.heap.size + 1 + 1) (lt_blk bR_0.out)).trans bR_0.out)
    have hz1 := ha1.size
    simp only [World.size_alloc] at hz1
    clear ha1
    try simp only [World.size_alloc] at hoi
    have oI_1 := Lib.hid hoi
    clear hoi
    try simp only [World.size_alloc] at hol
    have oL_1 := Lib.hid hol
    clear hol
    have bR1c0 := cell_blk (i := 0) bR_1.out rfl
    have bR1f0 := free_blk bR_1.out 0
    have bR1c1 := cell_blk (i := 1) bR_1.out rfl
    have bR1f1 := free_blk bR_1.out 1
    have bR1c2 := cell_blk (i := 2) bR_1.out rfl
    have bR1f2 := free_blk bR_1.out 2
    have bR1l := lt_blk bR_1.out
    go_wp2
    exact bodyPost_ret (v := .tuple #[.agg #[.int .i64 an, .slice A1 ai.length c1, .slice A2 al.length c2], .bool ok]) (by simp [results, Try.results29, go_sem, bR1c0, bR1f0, bR1c1, bR1f1, bR1c2, bR1f2]) rfl ⟨A1, c1, A2, c2, rfl, (OwnCk.put3 oI_1.out (by omega)).wider (by omega) (by simp [World.setCell]), (OwnLe.put3 oL_1.out (by omega)).wider (by omega) (by simp [World.setCell]), bel_put3 HB1.out (by omega)⟩
  · by_cases h2 : s0 = 2
    · subst h2
      rw [show doW tm is ls (2, s1, s2) = passW tm is ls s2 by simp [doW]]
      have hf := (fun W (hW : Below w.heap.size w W) => specPassTime_any tm A A' n c n' c' is ls s2 B W hn hn' (h.below (hW.mono hB)) (h'.below (hW.mono hB)) (Nat.le_trans hB hW.size))
      obtain ⟨⟨an, ai, al, ok⟩, hr⟩ : ∃ r, r = passW tm is ls s2 := ⟨_, rfl⟩
      simp only [← hr] at hf
      rw [← hr, WAPost_un]
      simp only [WAPost_un] at hf
      have HF := Lib.hid hf
      clear hf hr h h' hn hn'
      go_enter Try.func29, Try.ntmps29
      go_wp2_with fail
      refine (HF.out _ HB0.out).mono ?_
      rintro e w1 ⟨A1, c1, A2, c2, rfl, hoi, hol, ha1⟩
      have HB1 := Lib.hid (HB0.out.trans (ha1.mono HB0.out.size))
      have bR_1 := Lib.hid ((ha1.block (w.heap.size + 1 + 1) (lt_blk bR_0.out)).trans bR_0.out)
      have hz1 := ha1.size
      simp only [World.size_alloc] at hz1
      clear ha1
      try simp only [World.size_alloc] at hoi
      have oI_1 := Lib.hid hoi
      clear hoi
      try simp only [World.size_alloc] at hol
      have oL_1 := Lib.hid hol
      clear hol
      have bR1c0 := cell_blk (i := 0) bR_1.out rfl
      have bR1f0 := free_blk bR_1.out 0
      have bR1c1 := cell_blk (i := 1) bR_1.out rfl
      have bR1f1 := free_blk bR_1.out 1
      have bR1c2 := cell_blk (i := 2) bR_1.out rfl
      have bR1f2 := free_blk bR_1.out 2
      have bR1l := lt_blk bR_1.out
      go_wp2
      exact bodyPost_ret (v := .tuple #[.agg #[.int .i64 an, .slice A1 ai.length c1, .slice A2 al.length c2], .bool ok]) (by simp [results, Try.results29, go_sem, bR1c0, bR1f0, bR1c1, bR1f1, bR1c2, bR1f2]) rfl ⟨A1, c1, A2, c2, rfl, (OwnCk.put3 oI_1.out (by omega)).wider (by omega) (by simp [World.setCell]), (OwnLe.put3 oL_1.out (by omega)).wider (by omega) (by simp [World.setCell]), bel_put3 HB1.out (by omega)⟩
    · by_cases h3 : s0 = 3
      · subst h3
        rw [show doW tm is ls (3, s1, s2) = driftW tm is ls s1 s2 by simp [doW]]
        have hf := (fun W (hW : Below w.heap.size w W) => specDriftTo_any tm A A' n c n' c' is ls s1 s2 B W hn hn' (h.below (hW.mono hB)) (h'.below (hW.mono hB)) (Nat.le_trans hB hW.size))
        obtain ⟨⟨an, ai, al, ok⟩, hr⟩ : ∃ r, r = driftW tm is ls s1 s2 := ⟨_, rfl⟩
        simp only [← hr] at hf
        rw [← hr, WAPost_un]
        simp only [WAPost_un] at hf
        have HF := Lib.hid hf
        clear hf hr h h' hn hn'
        go_enter Try.func29, Try.ntmps29
        go_wp2_with fail
        refine (HF.out _ HB0.out).mono ?_
        rintro e w1 ⟨A1, c1, A2, c2, rfl, hoi, hol, ha1⟩
        have HB1 := Lib.hid (HB0.out.trans (ha1.mono HB0.out.size))
        have bR_1 := Lib.hid ((ha1.block (w.heap.size + 1 + 1) (lt_blk bR_0.out)).trans bR_0.out)
        have hz1 := ha1.size
        simp only [World.size_alloc] at hz1
        clear ha1
        try simp only [World.size_alloc] at hoi
        have oI_1 := Lib.hid hoi
        clear hoi
        try simp only [World.size_alloc] at hol
        have oL_1 := Lib.hid hol
        clear hol
        have bR1c0 := cell_blk (i := 0) bR_1.out rfl
        have bR1f0 := free_blk bR_1.out 0
        have bR1c1 := cell_blk (i := 1) bR_1.out rfl
        have bR1f1 := free_blk bR_1.out 1
        have bR1c2 := cell_blk (i := 2) bR_1.out rfl
        have bR1f2 := free_blk bR_1.out 2
        have bR1l := lt_blk bR_1.out
        go_wp2
        exact bodyPost_ret (v := .tuple #[.agg #[.int .i64 an, .slice A1 ai.length c1, .slice A2 al.length c2], .bool ok]) (by simp [results, Try.results29, go_sem, bR1c0, bR1f0, bR1c1, bR1f1, bR1c2, bR1f2]) rfl ⟨A1, c1, A2, c2, rfl, (OwnCk.put3 oI_1.out (by omega)).wider (by omega) (by simp [World.setCell]), (OwnLe.put3 oL_1.out (by omega)).wider (by omega) (by simp [World.setCell]), bel_put3 HB1.out (by omega)⟩
      · by_cases h4 : s0 = 4
        · subst h4
          rw [show doW tm is ls (4, s1, s2) = giveW tm is ls s1 by simp [doW]]
          have hf := (fun W (hW : Below w.heap.size w W) => specGiveBack_any tm A A' n c n' c' is ls s1 B W hn hn' (h.below (hW.mono hB)) (h'.below (hW.mono hB)) (Nat.le_trans hB hW.size))
          obtain ⟨⟨an, ai, al, ok⟩, hr⟩ : ∃ r, r = giveW tm is ls s1 := ⟨_, rfl⟩
          simp only [← hr] at hf
          rw [← hr, WAPost_un]
          simp only [WAPost_un] at hf
          have HF := Lib.hid hf
          clear hf hr h h' hn hn'
          go_enter Try.func29, Try.ntmps29
          go_wp2_with fail
          refine (HF.out _ HB0.out).mono ?_
          rintro e w1 ⟨A1, c1, A2, c2, rfl, hoi, hol, ha1⟩
          have HB1 := Lib.hid (HB0.out.trans (ha1.mono HB0.out.size))
          have bR_1 := Lib.hid ((ha1.block (w.heap.size + 1 + 1) (lt_blk bR_0.out)).trans bR_0.out)
          have hz1 := ha1.size
          simp only [World.size_alloc] at hz1
          clear ha1
          try simp only [World.size_alloc] at hoi
          have oI_1 := Lib.hid hoi
          clear hoi
          try simp only [World.size_alloc] at hol
          have oL_1 := Lib.hid hol
          clear hol
          have bR1c0 := cell_blk (i := 0) bR_1.out rfl
          have bR1f0 := free_blk bR_1.out 0
          have bR1c1 := cell_blk (i := 1) bR_1.out rfl
          have bR1f1 := free_blk bR_1.out 1
          have bR1c2 := cell_blk (i := 2) bR_1.out rfl
          have bR1f2 := free_blk bR_1.out 2
          have bR1l := lt_blk bR_1.out
          go_wp2
          exact bodyPost_ret (v := .tuple #[.agg #[.int .i64 an, .slice A1 ai.length c1, .slice A2 al.length c2], .bool ok]) (by simp [results, Try.results29, go_sem, bR1c0, bR1f0, bR1c1, bR1f1, bR1c2, bR1f2]) rfl ⟨A1, c1, A2, c2, rfl, (OwnCk.put3 oI_1.out (by omega)).wider (by omega) (by simp [World.setCell]), (OwnLe.put3 oL_1.out (by omega)).wider (by omega) (by simp [World.setCell]), bel_put3 HB1.out (by omega)⟩
        · rw [show doW tm is ls (s0, s1, s2) = noW by simp [doW, h1, h2, h3, h4]]
          have b1 : (s0 == 1) = false := by simp [h1]
          have b2 : (s0 == 2) = false := by simp [h2]
          have b3 : (s0 == 3) = false := by simp [h3]
          have b4 : (s0 == 4) = false := by simp [h4]
          have d1 : decide (s0 = 1) = false := by simp [h1]
          have d2 : decide (s0 = 2) = false := by simp [h2]
          have d3 : decide (s0 = 3) = false := by simp [h3]
          have d4 : decide (s0 = 4) = false := by simp [h4]
          clear h h' hn hn'
          go_enter Try.func29, Try.ntmps29
          go_wp2
          exact bodyPost_ret (v := .tuple #[.agg #[.int .i64 0, .slice none 0 0, .slice none 0 0], .bool false]) (by simp [results, Try.results29, go_sem]) rfl (noW_post (below3 _ _ _ _))

set_option maxRecDepth 100000 in
set_option maxHeartbeats 8000000 in
theorem implDo_any (tm : Int) (A A' : Option Addr) (n c n' c' : Nat) (is : List Int) (ls : List (Int × Int × Int)) (s0 s1 s2 : Int) (B : Nat) (w : World) (hn : is.length = n) (hn' : ls.length = n') (h : CksB w B A is) (h' : LesB w B A' ls) (hB : B ≤ w.heap.size) :
    Calls Try.prog 27 #[.agg #[.int .i64 tm, .slice A n c, .slice A' n' c'], .agg #[.int .i64 s0, .int .i64 s1, .int .i64 s2]] w (WAPost (doW tm is ls (s0, s1, s2)) w) := by
  have HB0 := Lib.hid (below3 w (.cells #[.int .i64 tm, .slice A n c, .slice A' n' c'] 30) (.cells #[.int .i64 s0, .int .i64 s1, .int .i64 s2] 36) (.cells #[.int .i64 0, .slice none 0 0, .slice none 0 0] 30))
  have bR_0 := Lib.hid (alloc_snd (w.alloc (.cells #[.int .i64 tm, .slice A n c, .slice A' n' c'] 30)) (.cells #[.int .i64 s0, .int .i64 s1, .int .i64 s2] 36) (.cells #[.int .i64 0, .slice none 0 0, .slice none 0 0] 30))
  simp only [World.size_alloc] at bR_0
  by_cases h1 : s0 = 1
  · subst h1
    rw [show doW tm is ls (1, s1, s2) = askW tm is ls s1 s2 by simp [doW]]
    have hf := (fun W (hW : Below w.heap.size w W) => implAskLease_any tm A A' n c n' c' is ls s1 s2 B W hn hn' (h.below (hW.mono hB)) (h'.below (hW.mono hB)) (Nat.le_trans hB hW.size))
    obtain ⟨⟨an, ai, al, ok⟩, hr⟩ : ∃ r, r = askW tm is ls s1 s2 := ⟨_, rfl⟩
    simp only [← hr] at hf
    rw [← hr, WAPost_un]
    simp only [WAPost_un] at hf
    have HF := Lib.hid hf
    clear hf hr h h' hn hn'
    go_enter Try.func27, Try.ntmps27
    go_wp2_with fail
    refine (HF.out _ HB0.out).mono ?_
    rintro e w1 ⟨A1, c1, A2, c2, rfl, hoi, hol, ha1⟩
    have HB1 := Lib.hid (HB0.out.trans (ha1.mono HB0.out.size))
    have bR_1 := Lib.hid ((ha1.block (w.heap.size + 1 + 1) (lt_blk bR_0.out)).trans bR_0.out)
    have hz1 := ha1.size
    simp only [World.size_alloc] at hz1
    clear ha1
    try simp only [World.size_alloc] at hoi
    have oI_1 := Lib.hid hoi
    clear hoi
    try simp only [World.size_alloc] at hol
    have oL_1 := Lib.hid hol
    clear hol
    have bR1c0 := cell_blk (i := 0) bR_1.out rfl
    have bR1f0 := free_blk bR_1.out 0
    have bR1c1 := cell_blk (i := 1) bR_1.out rfl
    have bR1f1 := free_blk bR_1.out 1
    have bR1c2 := cell_blk (i := 2) bR_1.out rfl
    have bR1f2 := free_blk bR_1.out 2
    have bR1l := lt_blk bR_1.out
    go_wp2
    exact bodyPost_ret (v := .tuple #[.agg #[.int .i64 an, .slice A1 ai.length c1, .slice A2 al.length c2], .bool ok]) (by simp [results, Try.results27, go_sem, bR1c0, bR1f0, bR1c1, bR1f1, bR1c2, bR1f2]) rfl ⟨A1, c1, A2, c2, rfl, (OwnCk.put3 oI_1.out (by omega)).wider (by omega) (by simp [World.setCell]), (OwnLe.put3 oL_1.out (by omega)).wider (by omega) (by simp [World.setCell]), bel_put3 HB1.out (by omega)⟩
  · by_cases h2 : s0 = 2
    · subst h2
      rw [show doW tm is ls (2, s1, s2) = passW tm is ls s2 by simp [doW]]
      have hf := (fun W (hW : Below w.heap.size w W) => implPassTime_any tm A A' n c n' c' is ls s2 B W hn hn' (h.below (hW.mono hB)) (h'.below (hW.mono hB)) (Nat.le_trans hB hW.size))
      obtain ⟨⟨an, ai, al, ok⟩, hr⟩ : ∃ r, r = passW tm is ls s2 := ⟨_, rfl⟩
      simp only [← hr] at hf
      rw [← hr, WAPost_un]
      simp only [WAPost_un] at hf
      have HF := Lib.hid hf
      clear hf hr h h' hn hn'
      go_enter Try.func27, Try.ntmps27
      go_wp2_with fail
      refine (HF.out _ HB0.out).mono ?_
      rintro e w1 ⟨A1, c1, A2, c2, rfl, hoi, hol, ha1⟩
      have HB1 := Lib.hid (HB0.out.trans (ha1.mono HB0.out.size))
      have bR_1 := Lib.hid ((ha1.block (w.heap.size + 1 + 1) (lt_blk bR_0.out)).trans bR_0.out)
      have hz1 := ha1.size
      simp only [World.size_alloc] at hz1
      clear ha1
      try simp only [World.size_alloc] at hoi
      have oI_1 := Lib.hid hoi
      clear hoi
      try simp only [World.size_alloc] at hol
      have oL_1 := Lib.hid hol
      clear hol
      have bR1c0 := cell_blk (i := 0) bR_1.out rfl
      have bR1f0 := free_blk bR_1.out 0
      have bR1c1 := cell_blk (i := 1) bR_1.out rfl
      have bR1f1 := free_blk bR_1.out 1
      have bR1c2 := cell_blk (i := 2) bR_1.out rfl
      have bR1f2 := free_blk bR_1.out 2
      have bR1l := lt_blk bR_1.out
      go_wp2
      exact bodyPost_ret (v := .tuple #[.agg #[.int .i64 an, .slice A1 ai.length c1, .slice A2 al.length c2], .bool ok]) (by simp [results, Try.results27, go_sem, bR1c0, bR1f0, bR1c1, bR1f1, bR1c2, bR1f2]) rfl ⟨A1, c1, A2, c2, rfl, (OwnCk.put3 oI_1.out (by omega)).wider (by omega) (by simp [World.setCell]), (OwnLe.put3 oL_1.out (by omega)).wider (by omega) (by simp [World.setCell]), bel_put3 HB1.out (by omega)⟩
    · by_cases h3 : s0 = 3
      · subst h3
        rw [show doW tm is ls (3, s1, s2) = driftW tm is ls s1 s2 by simp [doW]]
        have hf := (fun W (hW : Below w.heap.size w W) => implDriftTo_any tm A A' n c n' c' is ls s1 s2 B W hn hn' (h.below (hW.mono hB)) (h'.below (hW.mono hB)) (Nat.le_trans hB hW.size))
        obtain ⟨⟨an, ai, al, ok⟩, hr⟩ : ∃ r, r = driftW tm is ls s1 s2 := ⟨_, rfl⟩
        simp only [← hr] at hf
        rw [← hr, WAPost_un]
        simp only [WAPost_un] at hf
        have HF := Lib.hid hf
        clear hf hr h h' hn hn'
        go_enter Try.func27, Try.ntmps27
        go_wp2_with fail
        refine (HF.out _ HB0.out).mono ?_
        rintro e w1 ⟨A1, c1, A2, c2, rfl, hoi, hol, ha1⟩
        have HB1 := Lib.hid (HB0.out.trans (ha1.mono HB0.out.size))
        have bR_1 := Lib.hid ((ha1.block (w.heap.size + 1 + 1) (lt_blk bR_0.out)).trans bR_0.out)
        have hz1 := ha1.size
        simp only [World.size_alloc] at hz1
        clear ha1
        try simp only [World.size_alloc] at hoi
        have oI_1 := Lib.hid hoi
        clear hoi
        try simp only [World.size_alloc] at hol
        have oL_1 := Lib.hid hol
        clear hol
        have bR1c0 := cell_blk (i := 0) bR_1.out rfl
        have bR1f0 := free_blk bR_1.out 0
        have bR1c1 := cell_blk (i := 1) bR_1.out rfl
        have bR1f1 := free_blk bR_1.out 1
        have bR1c2 := cell_blk (i := 2) bR_1.out rfl
        have bR1f2 := free_blk bR_1.out 2
        have bR1l := lt_blk bR_1.out
        go_wp2
        exact bodyPost_ret (v := .tuple #[.agg #[.int .i64 an, .slice A1 ai.length c1, .slice A2 al.length c2], .bool ok]) (by simp [results, Try.results27, go_sem, bR1c0, bR1f0, bR1c1, bR1f1, bR1c2, bR1f2]) rfl ⟨A1, c1, A2, c2, rfl, (OwnCk.put3 oI_1.out (by omega)).wider (by omega) (by simp [World.setCell]), (OwnLe.put3 oL_1.out (by omega)).wider (by omega) (by simp [World.setCell]), bel_put3 HB1.out (by omega)⟩
      · by_cases h4 : s0 = 4
        · subst h4
          rw [show doW tm is ls (4, s1, s2) = giveW tm is ls s1 by simp [doW]]
          have hf := (fun W (hW : Below w.heap.size w W) => implGiveBack_any tm A A' n c n' c' is ls s1 B W hn hn' (h.below (hW.mono hB)) (h'.below (hW.mono hB)) (Nat.le_trans hB hW.size))
          obtain ⟨⟨an, ai, al, ok⟩, hr⟩ : ∃ r, r = giveW tm is ls s1 := ⟨_, rfl⟩
          simp only [← hr] at hf
          rw [← hr, WAPost_un]
          simp only [WAPost_un] at hf
          have HF := Lib.hid hf
          clear hf hr h h' hn hn'
          go_enter Try.func27, Try.ntmps27
          go_wp2_with fail
          refine (HF.out _ HB0.out).mono ?_
          rintro e w1 ⟨A1, c1, A2, c2, rfl, hoi, hol, ha1⟩
          have HB1 := Lib.hid (HB0.out.trans (ha1.mono HB0.out.size))
          have bR_1 := Lib.hid ((ha1.block (w.heap.size + 1 + 1) (lt_blk bR_0.out)).trans bR_0.out)
          have hz1 := ha1.size
          simp only [World.size_alloc] at hz1
          clear ha1
          try simp only [World.size_alloc] at hoi
          have oI_1 := Lib.hid hoi
          clear hoi
          try simp only [World.size_alloc] at hol
          have oL_1 := Lib.hid hol
          clear hol
          have bR1c0 := cell_blk (i := 0) bR_1.out rfl
          have bR1f0 := free_blk bR_1.out 0
          have bR1c1 := cell_blk (i := 1) bR_1.out rfl
          have bR1f1 := free_blk bR_1.out 1
          have bR1c2 := cell_blk (i := 2) bR_1.out rfl
          have bR1f2 := free_blk bR_1.out 2
          have bR1l := lt_blk bR_1.out
          go_wp2
          exact bodyPost_ret (v := .tuple #[.agg #[.int .i64 an, .slice A1 ai.length c1, .slice A2 al.length c2], .bool ok]) (by simp [results, Try.results27, go_sem, bR1c0, bR1f0, bR1c1, bR1f1, bR1c2, bR1f2]) rfl ⟨A1, c1, A2, c2, rfl, (OwnCk.put3 oI_1.out (by omega)).wider (by omega) (by simp [World.setCell]), (OwnLe.put3 oL_1.out (by omega)).wider (by omega) (by simp [World.setCell]), bel_put3 HB1.out (by omega)⟩
        · rw [show doW tm is ls (s0, s1, s2) = noW by simp [doW, h1, h2, h3, h4]]
          have b1 : (s0 == 1) = false := by simp [h1]
          have b2 : (s0 == 2) = false := by simp [h2]
          have b3 : (s0 == 3) = false := by simp [h3]
          have b4 : (s0 == 4) = false := by simp [h4]
          have d1 : decide (s0 = 1) = false := by simp [h1]
          have d2 : decide (s0 = 2) = false := by simp [h2]
          have d3 : decide (s0 = 3) = false := by simp [h3]
          have d4 : decide (s0 = 4) = false := by simp [h4]
          clear h h' hn hn'
          go_enter Try.func27, Try.ntmps27
          go_wp2
          exact bodyPost_ret (v := .tuple #[.agg #[.int .i64 0, .slice none 0 0, .slice none 0 0], .bool false]) (by simp [results, Try.results27, go_sem]) rfl (noW_post (below3 _ _ _ _))
end Go.Proofs.Ytpppgihoekfmoaa.Wt
