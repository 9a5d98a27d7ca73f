/-
  The walk of the law FnSeals.
-/
import Derived.Test.YtodfefaknclemaaSealsParts
import Derived.Deep.RegionWith
namespace Go.Proofs.Ytodfefaknclemaa
open Go.RowKit
set_option linter.unusedVariables false

/-- The byte that the law writes differs from the one that was there. -/
theorem xor_byte (a : UInt8) (y : Nat) (v : Int) (hv : v = 1 + (y : Int) % 255) : ∃ x : UInt8, x ≠ a ∧ (x.toNat : Int) = bits .xor .u8 (a.toNat : Int) v := by
  subst hv
  have ha := a.toNat_lt
  have h1 : (UInt8.ofNat (1 + y % 255)).toNat = 1 + y % 255 := by simp [UInt8.toNat_ofNat']; omega
  refine ⟨a ^^^ UInt8.ofNat (1 + y % 255), ?_, ?_⟩
  · intro e
    have e2 : a ^^^ (a ^^^ UInt8.ofNat (1 + y % 255)) = a ^^^ a := by rw [e]
    rw [← UInt8.xor_assoc, UInt8.xor_self, UInt8.zero_xor] at e2
    have := congrArg UInt8.toNat e2
    rw [h1] at this
    simp at this
  · rw [u8_xor (a.toNat : Int) (1 + (y : Int) % 255) (by omega) (by omega) (by omega) (by omega)]
    rw [UInt8.toNat_xor, h1]
    congr 1

theorem wrap_byte (y : Nat) : IntKind.u8.wrap (IntKind.i64.wrap (1 + (y : Int).tmod 255)) = 1 + (y : Int) % 255 := by
  rw [Int.tmod_eq_emod_of_nonneg (by omega)]
  rw [IntWalk.i64_in _ (by omega)]
  have h : IntKind.u8.wrap (1 + (y : Int) % 255) = (1 + (y : Int) % 255) % 256 := by simp [IntKind.wrap, IntKind.signed, IntKind.bits]
  rw [h]
  omega
theorem SRow.conv_setG {W W' : World} {g cap : Nat} {s : ByteArray} (h : SRow W g s cap) (k : Nat) (hk : k < s.data.toList.length) (x : UInt8) (v : Int) (hv : (x.toNat : Int) = v)
    (hW : ∀ j, W'.cell? ⟨g, j, none⟩ = (W.setCell ⟨g, k, none⟩ (.int .u8 v)).cell? ⟨g, j, none⟩) :
    (convert 22 9 (.slice (some ⟨g, 0, none⟩) s.size cap)).run Try.prog W' = .ok (.string ⟨(s.data.toList.set k x).toArray⟩) W' := by
  subst hv
  have hl : (s.data.toList.set k x).length = s.size := by simp
  rw [← hl]
  refine run_convert_bytes_back _ 22 9 5 ⟨g, 0, none⟩ cap _ Try.underlying22 Try.underlying5 Try.underlying9 (fun j hj => ?_)
  have hadd : (⟨g, 0, none⟩ : Addr).add j = ⟨g, j, none⟩ := by unfold Addr.add; split <;> simp_all
  rw [List.length_set] at hj
  rw [hadd, hW]
  have hb := h.byte j hj
  by_cases hjk : j = k
  · subst hjk
    rw [World.cell?_setCell_same' W ⟨g, j, none⟩ _ (by rw [hb]; rfl)]
    simp
  · rw [World.cell?_setCell_other _ _ _ _ (fun e => hjk (by simp only [Addr.mk.injEq] at e; exact e.2.1.symm))]
    rw [List.getElem_set_ne (by omega)]
    exact hb

set_option maxRecDepth 100000 in
set_option maxHeartbeats 4000000 in
theorem sealsWalk (A B : Option Addr) (n1 c1 n2 c2 : Nat) (l1 l2 : List UInt8) (w : World) (hn1 : l1.length = n1) (hn2 : l2.length = n2) (hm1 : n1 ≤ maxLen) (hm2 : n2 ≤ maxLen) (h1 : BytesAt w A l1) (h2 : BytesAt w B l2) :
    Calls Try.prog 4 #[.slice A n1 c1, .slice B n2 c2] w fun e w' => e = .returned (.bool true) ∧ Below w.heap.size w w' := by
  by_cases hbig : 1048576 < n1 + n2
  · clear h1 h2 hn1 hn2
    go_enter Try.func4, Try.ntmps4
    go_wp2_with fail
    refine (big_yes A B n1 c1 n2 c2 _ hm1 hm2 hbig).mono ?_
    rintro e w' ⟨rfl, rfl⟩
    go_wp2
    go_ret
    exact ⟨rfl, Below.refl _ _⟩
  · have hl1 : n1 ≤ 1048576 := by omega
    have hl2 : n2 ≤ 1048576 := by omega
    have hsum : n1 + n2 ≤ 1048576 := by omega
    have H1 := Lib.hid h1
    have H2 := Lib.hid h2
    have HN1 := Lib.hid hn1
    have HN2 := Lib.hid hn2
    clear hm1 hm2 hbig h1 h2 hn1 hn2
    go_enter Try.func4, Try.ntmps4
    go_wp2_with fail
    refine (big_no A B n1 c1 n2 c2 _ hsum).mono ?_
    rintro e w' ⟨rfl, rfl⟩
    go_wp2_with fail
    refine (drawSealBytes_any A n1 c1 l1 _ HN1.out H1.out hl1).mono ?_
    rintro e w1 ⟨t, rfl, ht, hb1⟩
    have hM1 := H2.out.below hb1
    have hA1 := H1.out.below hb1
    by_cases hts : t.size ≤ 5997
    · obtain ⟨S, hS⟩ : ∃ S : ByteArray, S = ⟨(sealed t.data.toList).toArray⟩ := ⟨_, rfl⟩
      have hSl : S.data.toList = sealed t.data.toList := by rw [hS]
      have hSs : S.size = t.size + 3 := by rw [hS, size_of_list, sealed_len]; simp
      have hI := fun W' => implSeal_yes t W' hts
      have hP := fun W' => specSeal_yes t W' hts
      have hO := fun W' => open_sealed t W' hts
      have hX := fun k x W' hk hx => open_changed t k x W' hts hk hx
      rw [← hS] at hI hP hO
      rw [← hSl] at hX
      have HI := Lib.hid hI
      have HP := Lib.hid hP
      have HO := Lib.hid hO
      have HX := Lib.hid hX
      have HSS0 := Lib.hid hSs
      have hS3 : 3 ≤ S.size := by omega
      have hS6 : S.size ≤ 6000 := by omega
      clear hI hP hO hX hS hSl hSs
      go_wp2_with fail
      refine (HI.out _).mono ?_
      rintro e w2 ⟨rfl, hb2⟩
      have hM2 := hM1.below hb2
      have hA2 := hA1.below hb2
      have hB2 := hb1.trans (hb2.mono hb1.size)
      go_wp2_with fail
      refine (HP.out _).mono ?_
      rintro e w3 ⟨rfl, hb3⟩
      have hM3 := hM2.below hb3
      have hA3 := hA2.below hb3
      have hB3 := hB2.trans (hb3.mono hB2.size)
      go_wp2_with fail
      refine (HO.out _).mono ?_
      rintro e w4 ⟨rfl, hb4⟩
      have hM4 := hM3.below hb4
      have hA4 := hA3.below hb4
      have hB4 := hB3.trans (hb4.mono hB3.size)
      go_wp2_with fail
      refine (numberOf_any B n2 c2 l2 _ HN2.out hM4 hl2).mono ?_
      rintro e w5 ⟨x, hx, rfl, rfl⟩
      obtain ⟨cap, w6, hconv, hrow, hcap, hb6, hsz6⟩ := conv_bytes S w4
      have hM6 := hM4.below hb6
      have hA6 := hA4.below hb6
      have hB6 := hB4.trans (hb6.mono hB4.size)
      have hR : SRow w6 w4.heap.size S cap := ⟨hcap, hrow⟩
      have hdl : S.data.toList.length = S.size := by simp
      have hk0 : x % S.size < S.data.toList.length := by rw [hdl]; exact Nat.mod_lt _ (by omega)
      obtain ⟨k, hkd⟩ : ∃ k, k = x % S.size := ⟨_, rfl⟩
      have hxk : (x : Int) % (S.size : Int) = (k : Int) := by rw [hkd]; simp
      rw [← hkd] at hk0
      have hk := hk0
      have hcell := hR.byte k hk
      have hfro := (hR.at_ k (by omega)).2
      obtain ⟨a, ha⟩ : ∃ a : UInt8, a = S.data.toList[k]'hk := ⟨_, rfl⟩
      rw [← ha] at hcell
      have HA := Lib.hid ha
      have HK := Lib.hid hk
      have HR := Lib.hid hR
      obtain ⟨g, hg⟩ : ∃ g, g = w4.heap.size := ⟨_, rfl⟩
      have HXK := Lib.hid hxk
      have hi0 : (0 : Int) ≤ (k : Int) := by omega
      have hi1 : (k : Int) < (S.size : Int) := by omega
      clear ha hrow hdl hsz6 hR hxk hkd hk0
      rw [← hg] at hconv hcell hfro HR
      have HG := Lib.hid hg
      clear hg
      go_wp2_with fail
      rw [HXK.out]
      have HA6 := Lib.hid hA6
      clear hconv
      go_region_with (go_at_call 38; refine (numberOf_any A n1 c1 l1 _ HN1.out (by exact HA6.out) hl1).mono ?_; rintro e w7 ⟨y, hy, rfl, rfl⟩)
      all_goals
        obtain ⟨x2, hx2, hv2⟩ := xor_byte a y _ (wrap_byte y)
        rw [← hv2]
        have hcv := HR.out.conv_setG k HK.out x2 _ rfl (W' := (w6.setCell ⟨g, k, none⟩ (.int .u8 (x2.toNat : Int))).drew) (fun _ => rfl)
        have hb8 : Below w4.heap.size w4 (w6.setCell ⟨g, k, none⟩ (.int .u8 (x2.toNat : Int))).drew := (hb6.setCell (p := ⟨g, k, none⟩) (by rw [HG.out]; exact Nat.le_refl _) _).drew
        have hMr0 := hM4.below hb8
        have hBr0 := hB4.trans (hb8.mono hB4.size)
        have HXX := Lib.hid (fun W' => HX.out k x2 W' HK.out (by rw [← HA.out]; exact hx2))
        clear hb8 hcell hfro hv2 hx2
        generalize (w6.setCell ⟨g, k, none⟩ (.int .u8 (x2.toNat : Int))).drew = W8 at *
        go_wp2_with fail
        refine (HXX.out _).mono ?_
        rintro e w9 ⟨rfl, hb9⟩
        have hMr := hMr0.below hb9
        have hBr := hBr0.trans (hb9.mono hBr0.size)
        go_wp2_with fail
        refine (drawOpenSeal_any B n2 c2 l2 _ HN2.out hMr hl2).mono ?_
        rintro e wa ⟨c, rfl, hc, hba⟩
        have hMa := hMr.below hba
        have hB1 := hBr.trans (hba.mono hBr.size)
        have hIO := fun W' => implOpen_all c W' (by unfold maxLen; omega)
        have hSO := fun W' => specOpen_all c W' (by unfold maxLen; omega)
        obtain ⟨r, hr⟩ : ∃ r, r = openRes c := ⟨_, rfl⟩
        rw [← hr] at hIO hSO
        unfold OpenTuple at hIO hSO
        have HIO := Lib.hid hIO
        have HSO := Lib.hid hSO
        clear hIO hSO hr
        go_wp2_with fail
        refine (HIO.out _).mono ?_
        rintro e wb ⟨rfl, hbb⟩
        have hMb := hMa.below hbb
        have hB2 := hB1.trans (hbb.mono hB1.size)
        go_wp2_with fail
        refine (HSO.out _).mono ?_
        rintro e wc ⟨rfl, hbc⟩
        have hMc := hMb.below hbc
        have hB3 := hB2.trans (hbc.mono hB2.size)
        go_wp2_with fail
        refine (drawSumOf_any B n2 c2 l2 _ HN2.out hMc hl2).mono ?_
        rintro e wd ⟨d, rfl, hd, hbd⟩
        have hB4 := hB3.trans (hbd.mono hB3.size)
        have hIS := fun W' => implSum_all d W' (by unfold maxLen; omega)
        have hSS := fun W' => specSum_all d W' (by unfold maxLen; omega)
        obtain ⟨u, hu⟩ : ∃ u, u = sumRes d := ⟨_, rfl⟩
        rw [← hu] at hIS hSS
        unfold SumTuple at hIS hSS
        have HIS := Lib.hid hIS
        have HSS := Lib.hid hSS
        clear hIS hSS hu
        go_wp2_with fail
        refine (HIS.out _).mono ?_
        rintro e we ⟨rfl, hbe⟩
        have hB5 := hB4.trans (hbe.mono hB4.size)
        go_wp2_with fail
        refine (HSS.out _).mono ?_
        rintro e wf ⟨rfl, hbf⟩
        have hB6 := hB5.trans (hbf.mono hB5.size)
        go_wp2
        go_ret
        exact ⟨by simp, hB6⟩
    · have h3 : 5997 < t.size := by omega
      go_wp2_with fail
      refine (implSeal_no t _ (by unfold maxLen; omega) h3).mono ?_
      rintro e w' ⟨rfl, rfl⟩
      go_wp2_with fail
      refine (specSeal_no t _ (by unfold maxLen; omega) h3).mono ?_
      rintro e w' ⟨rfl, rfl⟩
      go_wp2_with fail
      refine (drawOpenSeal_any B n2 c2 l2 _ HN2.out hM1 hl2).mono ?_
      rintro e wa ⟨c, rfl, hc, hba⟩
      have hMa := hM1.below hba
      have hB1 := hb1.trans (hba.mono hb1.size)
      have hIO := fun W' => implOpen_all c W' (by unfold maxLen; omega)
      have hSO := fun W' => specOpen_all c W' (by unfold maxLen; omega)
      obtain ⟨r, hr⟩ : ∃ r, r = openRes c := ⟨_, rfl⟩
      rw [← hr] at hIO hSO
      unfold OpenTuple at hIO hSO
      have HIO := Lib.hid hIO
      have HSO := Lib.hid hSO
      clear hIO hSO hr
      go_wp2_with fail
      refine (HIO.out _).mono ?_
      rintro e wb ⟨rfl, hbb⟩
      have hMb := hMa.below hbb
      have hB2 := hB1.trans (hbb.mono hB1.size)
      go_wp2_with fail
      refine (HSO.out _).mono ?_
      rintro e wc ⟨rfl, hbc⟩
      have hMc := hMb.below hbc
      have hB3 := hB2.trans (hbc.mono hB2.size)
      go_wp2_with fail
      refine (drawSumOf_any B n2 c2 l2 _ HN2.out hMc hl2).mono ?_
      rintro e wd ⟨d, rfl, hd, hbd⟩
      have hB4 := hB3.trans (hbd.mono hB3.size)
      have hIS := fun W' => implSum_all d W' (by unfold maxLen; omega)
      have hSS := fun W' => specSum_all d W' (by unfold maxLen; omega)
      obtain ⟨u, hu⟩ : ∃ u, u = sumRes d := ⟨_, rfl⟩
      rw [← hu] at hIS hSS
      unfold SumTuple at hIS hSS
      have HIS := Lib.hid hIS
      have HSS := Lib.hid hSS
      clear hIS hSS hu
      go_wp2_with fail
      refine (HIS.out _).mono ?_
      rintro e we ⟨rfl, hbe⟩
      have hB5 := hB4.trans (hbe.mono hB4.size)
      go_wp2_with fail
      refine (HSS.out _).mono ?_
      rintro e wf ⟨rfl, hbf⟩
      have hB6 := hB5.trans (hbf.mono hB5.size)
      go_wp2
      go_ret
      exact ⟨by simp, hB6⟩
end Go.Proofs.Ytodfefaknclemaa
