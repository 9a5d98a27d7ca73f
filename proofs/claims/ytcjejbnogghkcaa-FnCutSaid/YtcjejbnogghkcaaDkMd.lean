/-
  The walk of the law FnMend.
-/
import Derived.Test.YtcjejbnogghkcaaDkFc
import Derived.Test.YtcjejbnogghkcaaDkDr4
import Derived.Test.YtcjejbnogghkcaaDk9
import Derived.Test.YtcjejbnogghkcaaApp
namespace Go.Proofs.Ytcjejbnogghkcaa.Dk
open Go.RowKit C1
set_option linter.unusedVariables false
set_option linter.unusedSimpArgs false

theorem frs_all (G : ByteArray) (L : List ByteArray) (hL : ∀ s ∈ L, s.size ≤ 700) (h : G.data.toList = frmL L) : frs G G.size 0 = (L, G.size) := by
  have hlen : (frmL L).length = G.size := by rw [← h, data_len]
  have h1 := frs_frm (b := G) L G.size 0 [] hL (by rw [List.drop_zero, h, List.append_nil]) (Nat.zero_le _)
  have h2 := frs_none (fread_end (b := G) (q := G.size) (Nat.le_refl _)) G.size
  rw [Nat.zero_add, hlen, h2] at h1
  have h3 := (frs_enough (b := G) (L.length + G.size) 0 G.size (Nat.zero_le _) (by omega) (by omega)).1
  rw [← h3, h1]
  simp

theorem nil_add (k : ByteArray) : (⟨#[]⟩ : ByteArray) ++ k = k := byt (by rw [app_list]; rfl)
theorem mend_after (k s : ByteArray) (hs : s.size ≤ 8) (hK : (k.extract 0 (frs k k.size 0).2).size ≤ 40000) :
    writeA (k.extract 0 (frs k k.size 0).2) ⟨#[]⟩ s = (k.extract 0 (frs k k.size 0).2, frm s, true) ∧
    syncA (k.extract 0 (frs k k.size 0).2) (frm s) = (k.extract 0 (frs k k.size 0).2 ++ frm s, ⟨#[]⟩, true) ∧
    onA (k.extract 0 (frs k k.size 0).2 ++ frm s) ⟨#[]⟩ = ((frs k k.size 0).1 ++ [s], (k.extract 0 (frs k k.size 0).2 ++ frm s).size, true) ∧
    mendA (k.extract 0 (frs k k.size 0).2 ++ frm s) ⟨#[]⟩ = (k.extract 0 (frs k k.size 0).2 ++ frm s, ⟨#[]⟩, true) ∧ (k.extract 0 (frs k k.size 0).2 ++ frm s).size ≤ 40021 := by
  have hf := (frm_bound s).2
  have hb : (k.extract 0 (frs k k.size 0).2 ++ frm s).data.toList = frmL ((frs k k.size 0).1 ++ [s]) := by
    have h1 := cut_bytes k (frs k k.size 0).1.length (Nat.le_refl _)
    have h2 := (frs_enough (b := k) (frs k k.size 0).1.length 0 k.size (Nat.zero_le _)) 
    have h3 := frs_bytes (b := k) k.size 0 (Nat.zero_le _)
    rw [Nat.sub_zero, List.drop_zero] at h3
    rw [app_list, ext_list, List.drop_zero, Nat.sub_zero, h3, frmL_app]
    simp [frmL]
  have hL : ∀ t ∈ (frs k k.size 0).1 ++ [s], t.size ≤ 700 := by
    intro t ht
    rcases List.mem_append.1 ht with h | h
    · exact frs_sizes k.size 0 (Nat.zero_le _) t h
    · simp at h; subst h; omega
  have ha := frs_all _ _ hL hb
  obtain ⟨K, hKe⟩ : ∃ K, K = k.extract 0 (frs k k.size 0).2 := ⟨_, rfl⟩
  rw [← hKe] at hK ha hb ⊢
  have hz : (⟨#[]⟩ : ByteArray).size = 0 := rfl
  have hG : (K ++ frm s).size ≤ 40021 := by rw [ByteArray.size_append]; omega
  refine ⟨?_, ?_, ?_, ?_, hG⟩
  · rw [writeA_yes (goodB_yes (by omega)) (by omega) (goodB_yes (by rw [nil_add]; omega)), nil_add]
  · unfold syncA; rw [if_pos (goodB_yes (by omega))]
  · rw [onA_yes (goodB_yes (by omega)), add_nil, ha]
  · rw [mendA_yes (goodB_yes (by omega)) rfl, ha]
    simp only [Prod.mk.injEq, and_true]
    exact byt (by rw [ext_list, List.drop_zero, Nat.sub_zero, List.take_of_length_le (by rw [data_len]; exact Nat.le_refl _)])
theorem news_own {w : World} {lo c : Nat} {A : Option Addr} {L : List ByteArray} (h : w.ownsRow lo 9 1 (.slice A L.length c) L.length (S9 L)) : 0 < L.length → ∃ ad, A = some ad ∧ ∀ j u, (S9 L)[j]? = some u → w.cell? (ad.add j) = some u := by
  intro h0
  obtain ⟨g, hA, _, _, _⟩ := strs_cell h 0 h0
  refine ⟨_, hA, fun j u hj => ?_⟩
  have hjl : j < L.length := by have := (List.getElem?_eq_some_iff.1 hj).1; rwa [S9_len] at this
  obtain ⟨g', hA', _, _, hc⟩ := strs_cell h j hjl
  rw [hA] at hA'
  injection hA' with hA'
  injection hA' with hA'
  subst hA'
  have : u = .string L[j] := by simp only [S9, List.getElem?_map, List.getElem?_eq_getElem hjl, Option.map_some, Option.some.injEq] at hj; exact hj.symm
  rw [this]
  have e : (⟨g, 0, none⟩ : Addr).add j = ⟨g, j, none⟩ := by by_cases h : j = 0 <;> simp [Addr.add, h]
  rw [e]; exact hc
theorem s9_one (L : List ByteArray) : ∀ u ∈ S9 L, u.oneCell' = true := by
  intro u hu
  simp only [S9, List.mem_map] at hu
  obtain ⟨s, _, rfl⟩ := hu
  rfl

theorem unh {p : Prop} (h : Hid p) : p := h.out
theorem wpList_appG {P : Program} {w : World} {ops : Array Oper} {rest : List Oper} {o : Oper} {a : Act} {Q : Exit → Act → World → Prop} (s x : Operand) (t : TypeId)
    (ho : o.op = .call { callee := .builtin .append, args := #[s, x], argTypes := #[t, t] })
    (base : Nat) (e : TypeId) (i : TypeInfo) (z : Value) (size bytes : Nat) (ht : P.underlying t = some (.slice e)) (hi : P.info? e = some i) (hz : i.zero = some z)
    (hsize : i.size = size) (hby : i.bytes = bytes) (hzs : z.cells.size = size) (hsz : 0 < size)
    (v : Value) (n : Nat) (xs : List Value) (hs : a.eval s = v) (hown : w.ownsRow base e size v n xs)
    (A : Option Addr) (m c : Nat) (news : List Value) (hx : a.eval x = .slice A m c) (hl : news.length = m * size) (hnews : 0 < m → ∃ ad, A = some ad ∧ ∀ j u, news[j]? = some u → w.cell? (ad.add j) = some u) (h1 : ∀ u ∈ news, u.oneCell' = true)
    (h63 : n + m ≤ maxLen) (hbytes : (n + m) * bytes ≤ 140737488355328) (hbase : base ≤ w.heap.size) (hwt : Region.wanted o (yielded ops a.tmps) = true)
    (h : ∀ v' w', w'.ownsRow base e size v' (n + m) (xs ++ news) → w.grownBy w' v.ownBlock → (v'.ownBlock = v.ownBlock ∨ v'.ownBlock = some w.heap.size) → wpList P ops Q rest (a.put o.dst v') w') : wpList P ops Q (o :: rest) a w :=
  wpList_step fun _ hK => by
  rw [if_pos hwt]
  exact wp_app s x t ho base e i z size bytes ht hi hz hsize hby hzs hsz v n xs hs hown A m c news hx hl hnews h1 h63 hbytes hbase fun v' w' h2 h3 h4 => hK _ _ (h v' w' h2 h3 h4)

set_option maxRecDepth 100000 in
set_option maxHeartbeats 8000000 in
theorem mend_walk (w : World) (A : Option Addr) (n c : Nat) (l : List UInt8) (hn : l.length = n) (h : BytesAt w A l) (hm : n ≤ maxLen) :
    Calls Try.prog 5 #[.slice A n c] w fun e w' => e = .returned (.bool true) ∧ Below w.heap.size w w' := by
  by_cases hb : n ≤ 65536
  · have HV := Lib.hid (fun W => vBig_no A n c W hb)
    have HTX := Lib.hid (fun W (hW : BytesAt W A l) => vText_any A n c l 3 W hn hW (by omega) (by omega))
    have HDRAW := Lib.hid (drawMend_any A n c l w hn h (by omega))
    have HBY := Lib.hid h
    obtain ⟨i9, hi9, hz90, hz91, hz92⟩ := info_parts info9
    clear hn h hm
    go_enter Try.func5, Try.ntmps5
    go_wp2_with fail
    refine (HV.out _).mono ?_
    rintro e w1 ⟨rfl, rfl⟩
    go_wp2_with fail
    refine HDRAW.out.mono ?_
    rintro e w1 ⟨k, r, rfl, hkr, hb1⟩
    have HB1 := Lib.hid hb1
    have hd := heap_alloc_new w1 (.cells #[.string k, .string r] 30)
    have HIM := Lib.hid (fun W => implMend_any k r W (by omega) (by omega))
    have HSM := Lib.hid (fun W => specMend_any k r W (by omega) (by omega))
    have HON := Lib.hid (fun W => specOn_any k r W (by omega) (by omega))
    have HMA := Lib.hid (fun s hs hK => mend_after k s hs hK)
    obtain ⟨K, hK⟩ : ∃ K, K = k.extract 0 (frs k k.size 0).2 := ⟨_, rfl⟩
    by_cases hyes : goodB k r = true ∧ r.size = 0
    · obtain ⟨hg, h0⟩ := hyes
      obtain rfl := nil_of h0
      rw [mendA_yes hg h0, ← hK] at HIM HSM
      rw [onA_yes hg, add_nil] at HON
      have hkk : K.size ≤ 50000 := by rw [hK, ByteArray.size_extract]; have := goodB_le hg; omega
      simp only [← hK] at HMA
      simp only [DAns] at HIM HSM
      unfold OEnd at HON
      simp only at HON
      obtain ⟨L, hL⟩ : ∃ L, L = (frs k k.size 0).1 := ⟨_, rfl⟩
      have hLl : L.length ≤ 60000 := by rw [hL]; have := (frs_end (b := k) k.size 0 (Nat.zero_le _)).2.2.1; omega
      simp only [← hL] at HON HMA
      obtain ⟨z, hz⟩ : ∃ z, z = (frs k k.size 0).2 := ⟨_, rfl⟩
      rw [← hz] at HON
      have HEQ := Lib.hid (fun W => eq_disk W K ⟨#[]⟩)
      clear hg hL hz hK
      have HB2 := Lib.hid (hb1.alloc hb1.size (.cells #[.string k, .string ⟨#[]⟩] 30))
      clear hb1
      have c0 := cell_of_row _ _ 0 _ _ (0, 0) hd
      have c1 := cell_of_row _ _ 1 _ _ (0, 0) hd
      simp only [List.getElem?_toArray, List.getElem?_cons_zero, List.getElem?_cons_succ] at c0 c1
      go_upto_region 4 with fail
      obtain ⟨gd, hgd⟩ : ∃ gd, gd = w1.heap.size := ⟨_, rfl⟩
      have hlt1 : gd < (w1.alloc (.cells #[.string k, .string ⟨#[]⟩] 30)).heap.size := by rw [World.size_alloc]; omega
      rw [← hgd] at hd c0 c1 ⊢
      generalize w1.alloc (.cells #[.string k, .string ⟨#[]⟩] 30) = W1 at *
      clear hgd HB1 HDRAW HV
      have HDa := Lib.hid hd
      clear hd
      go_wp2_with fail
      refine (HIM.out _).mono ?_
      rintro e w2 ⟨rfl, hb2⟩
      have hd2 := (hb2.block gd hlt1).trans HDa.out
      have HD2 := Lib.hid hd2
      have HBb := Lib.hid (HB2.out.trans (hb2.mono HB2.out.size))
      have hlt2 := blk_lt hd2
      clear c0 c1 hb2
      have c0 := cell_of_row _ _ 0 _ _ (0, 0) hd2
      have c1 := cell_of_row _ _ 1 _ _ (0, 0) hd2
      simp only [List.getElem?_toArray, List.getElem?_cons_zero, List.getElem?_cons_succ] at c0 c1
      clear hd2
      go_wp2_with fail
      refine (HSM.out _).mono ?_
      rintro e w3 ⟨rfl, hb3⟩
      have hlt2e : w2.heap.size < (w2.alloc (.cells #[.string K, .string ⟨#[]⟩] 30)).heap.size := by rw [World.size_alloc]; omega
      have hd3 := (hb3.block gd (by omega)).trans ((Below.heap_alloc _ _ _ hlt2).trans HD2.out)
      have he3 := (hb3.block w2.heap.size hlt2e).trans (heap_alloc_new w2 _)
      obtain ⟨ge, hge⟩ : ∃ ge, ge = w2.heap.size := ⟨_, rfl⟩
      rw [← hge] at he3 ⊢
      have HD3 := Lib.hid hd3
      have HE3 := Lib.hid he3
      have HB3 := Lib.hid ((HBb.out.alloc HBb.out.size (.cells #[.string K, .string ⟨#[]⟩] 30)).trans (hb3.mono (HBb.out.alloc HBb.out.size (.cells #[.string K, .string ⟨#[]⟩] 30)).size))
      have hld3 := blk_lt hd3
      have hle3 := blk_lt he3
      clear c0 c1 hb3 hlt2 hlt2e hge hlt1
      have c0 := cell_of_row _ _ 0 _ _ (0, 0) hd3
      have c1 := cell_of_row _ _ 1 _ _ (0, 0) hd3
      simp only [List.getElem?_toArray, List.getElem?_cons_zero, List.getElem?_cons_succ] at c0 c1
      have x0 := cell_of_row _ _ 0 _ _ (0, 0) he3
      have x1 := cell_of_row _ _ 1 _ _ (0, 0) he3
      simp only [List.getElem?_toArray, List.getElem?_cons_zero, List.getElem?_cons_succ] at x0 x1
      clear hd3 he3
      have heq := HEQ.out
      by_cases h4 : K.size ≤ 40000
      · have h4' : decide (40000 < (K.size : Int)) = false := by simp; omega
        have h4'' : (K.size : Int) ≤ 40000 := by omega
        go_wp2_with fail
        refine (HON.out _).mono ?_
        rintro e w4 ⟨A8, c8, rfl, ho8, hb4⟩
        have he4 := (hb4.block ge (by rw [World.size_alloc]; omega)).trans ((Below.heap_alloc _ _ _ hle3).trans HE3.out)
        have HB4 := Lib.hid ((HB3.out.alloc HB3.out.size (.cells #[.string K, .string ⟨#[]⟩] 30)).trans (hb4.mono (HB3.out.alloc HB3.out.size (.cells #[.string K, .string ⟨#[]⟩] 30)).size))
        have HE4 := Lib.hid he4
        have HO4 := Lib.hid ho8
        have hle4 := blk_lt he4
        clear hb4 he4 ho8 c0 c1 x0 x1 heq h4' hld3 hle3
        go_wp2_with fail
        refine (HTX.out _ (HBY.out.below HB4.out)).mono ?_
        rintro e w5 ⟨s, rfl, hs8, hb5⟩
        obtain ⟨hw, hsy, hon, hme, hgz⟩ := HMA.out s hs8 h4
        have hfz := (frm_bound s).2
        have HWR := Lib.hid (fun W => implWrite_any K ⟨#[]⟩ s W (by omega) (by decide) (by unfold maxLen; omega))
        rw [hw] at HWR
        have HSY := Lib.hid (fun W => implSync_any K (frm s) W (by omega) (by omega))
        rw [hsy] at HSY
        have HOG := Lib.hid (fun W => implOn_any (K ++ frm s) ⟨#[]⟩ W (by omega) (by decide))
        rw [hon] at HOG
        have HMG := Lib.hid (fun W => implMend_any (K ++ frm s) ⟨#[]⟩ W (by omega) (by decide))
        rw [hme] at HMG
        have hM1 : (L ++ [s]).length = L.length + 1 := by simp
        unfold OEnd at HOG
        simp only [hM1] at HOG
        simp only [DAns] at HWR HSY HMG
        obtain ⟨F, hF⟩ : ∃ F, F = frm s := ⟨_, rfl⟩
        rw [← hF] at HWR HSY HOG HMG hgz
        obtain ⟨G, hG⟩ : ∃ G, G = K ++ F := ⟨_, rfl⟩
        rw [← hG] at HSY HOG HMG hgz
        clear hw hsy hon hme hF hG hfz hM1
        have he5 := (hb5.block ge hle4).trans HE4.out
        have HO5 := Lib.hid (row_below HO4.out hb5)
        have HB5 := Lib.hid (HB4.out.trans (hb5.mono HB4.out.size))
        have hs54 := hb5.size
        have hle5 := blk_lt he5
        have x0 := cell_of_row _ _ 0 _ _ (0, 0) he5
        have x1 := cell_of_row _ _ 1 _ _ (0, 0) he5
        simp only [List.getElem?_toArray, List.getElem?_cons_zero, List.getElem?_cons_succ] at x0 x1
        clear he5 hb5
        go_wp2_with fail
        refine (HWR.out _).mono ?_
        rintro e w6 ⟨rfl, hb6⟩
        have HO6 := Lib.hid (row_below HO5.out hb6)
        have HB6 := Lib.hid (HB5.out.trans (hb6.mono HB5.out.size))
        clear hb6 x0 x1 hle4 hle5 hs54
        go_wp2_with fail
        refine (HSY.out _).mono ?_
        rintro e w7 ⟨rfl, hb7⟩
        have hb67 : Below w6.heap.size w6 w7 := (below1 w6 _).trans (hb7.mono (below1 w6 _).size)
        have HO7 := Lib.hid (row_below HO6.out hb67)
        have HB7 := Lib.hid (HB6.out.trans (hb67.mono HB6.out.size))
        clear hb7 hb67
        go_wp2_with fail
        refine (HOG.out _).mono ?_
        rintro e w8 ⟨A9, c9, rfl, ho9, hb8⟩
        have hg8 := (hb8.block w7.heap.size (by rw [World.size_alloc]; omega)).trans (heap_alloc_new w7 _)
        have hb78 : Below w7.heap.size w7 w8 := (below1 w7 _).trans (hb8.mono (below1 w7 _).size)
        have HO8 := Lib.hid (row_below HO7.out hb78)
        have HB8 := Lib.hid (HB7.out.trans (hb78.mono HB7.out.size))
        have HN8 := Lib.hid ho9
        have hlg8 := blk_lt hg8
        have y0 := cell_of_row _ _ 0 _ _ (0, 0) hg8
        have y1 := cell_of_row _ _ 1 _ _ (0, 0) hg8
        simp only [List.getElem?_toArray, List.getElem?_cons_zero, List.getElem?_cons_succ] at y0 y1
        have HG8 := Lib.hid hg8
        clear hb8 hb78 hg8 ho9
        go_wp2_with fail
        refine (HMG.out _).mono ?_
        rintro e w9 ⟨rfl, hb9⟩
        have hg9 := (hb9.block w7.heap.size hlg8).trans HG8.out
        have HO9 := Lib.hid (row_below HO8.out hb9)
        have HN9 := Lib.hid (row_below HN8.out hb9)
        have HB9 := Lib.hid (HB8.out.trans (hb9.mono HB8.out.size))
        clear y0 y1 hlg8
        have hlg9 := blk_lt hg9
        have y0 := cell_of_row _ _ 0 _ _ (0, 0) hg9
        have y1 := cell_of_row _ _ 1 _ _ (0, 0) hg9
        simp only [List.getElem?_toArray, List.getElem?_cons_zero, List.getElem?_cons_succ] at y0 y1
        clear hg9 hb9
        have heq := fun W => eq_disk W G ⟨#[]⟩
        have hM1 : (L ++ [s]).length = L.length + 1 := by simp
        have hem := own_empty (w9.alloc (.cells #[.string G, .string ⟨#[]⟩] 30)) (w9.heap.size + 1) 9 1 (by simp)
        rw [World.size_alloc] at hem
        have HEM := Lib.hid hem
        have HM1 := Lib.hid hM1
        clear hem hM1
        go_wp2_with (at_builtin; refine unh ?_)
        refine Lib.hid ?_
        refine wpList_appG (.tmp 99) (.tmp 100) 31 rfl (w9.heap.size + 1) 9 i9 (.string ⟨#[]⟩) 1 16 Try.underlying31 hi9 hz90 hz91 hz92 rfl (by decide) _ _ _ rfl HEM.out A8 L.length c8 (S9 L) rfl (by rw [S9_len, Nat.mul_one]) (news_own (row_below HO9.out (below2 w9 _ _))) (s9_one L) (by unfold maxLen; omega) (by omega) (by simp) (by first | rfl | (simp [Region.wanted, yielded, go_sem])) ?_
        (intro v10 w10 hown10 hg10 _; have hb10 : Below w9.heap.size w9 w10 := (below2 w9 _ _).grown hg10 (by simp; omega) (fun k hk => by have h1 : w9.heap.size + 1 = k := Option.some.inj hk; omega); rw [Nat.zero_add, List.nil_append] at hown10; have H10 := Lib.hid hown10; have HB10 := Lib.hid hb10; have hs10 := hb10.size; have hlo10 := hown10.lt; clear hown10 hg10 hb10)
        go_wp2_with (at_builtin; refine unh ?_)
        refine Lib.hid ?_
        refine wpList_appG (.tmp 101) (.tmp 103) 31 rfl (w9.heap.size + 1) 9 i9 (.string ⟨#[]⟩) 1 16 Try.underlying31 hi9 hz90 hz91 hz92 rfl (by decide) _ _ _ rfl (H10.out.alloc _) (some ⟨w10.heap.size, 0, none⟩) 1 1 [.string s] rfl rfl (fun _ => ⟨_, rfl, one_at _ _ _⟩) (one_str _) (by unfold maxLen; omega) (by omega) (by simp; omega) (by first | rfl | (simp [Region.wanted, yielded, go_sem])) ?_
        (intro v11 w11 hown11 hg11 _; have hb11 : Below w9.heap.size w9 w11 := (HB10.out.alloc hs10 _).grown hg11 (by simp; omega) (fun k hk => by have := (H10.out.lt k hk).1; omega); have H11 := Lib.hid (own_snocS hown11); have HB11 := Lib.hid hb11; clear hown11 hg11 hb11 hlo10; obtain ⟨A11, c11, rfl⟩ := own_form H11.out)
        go_wp2_with fail
        have h5 : StrsB w11 w11.heap.size A9 (L ++ [s]) := by
          have h := row_below HN9.out HB11.out
          rw [← HM1.out] at h
          exact strsB_own h
        have h9 : StrsB w11 w11.heap.size A11 (L ++ [s]) := by
          have h := H11.out
          rw [← HM1.out] at h
          exact strsB_own h
        refine (vTexts_same A9 A11 (L.length + 1) c9 c11 (L ++ [s]) w11.heap.size w11 HM1.out h5 h9 (Nat.le_refl _) (by omega)).mono ?_
        rintro e w12 ⟨rfl, hb12⟩
        have hfin := HB9.out.trans (HB11.out.mono HB9.out.size)
        have HFIN := Lib.hid (hfin.trans (hb12.mono hfin.size))
        clear h5 h9 hb12 hfin
        go_wp2
        go_ret
        exact ⟨rfl, HFIN.out⟩
      · have h4' : decide (40000 < (K.size : Int)) = true := by simp; omega
        have h4'' : 40000 < (K.size : Int) := by omega
        go_wp2
        go_ret
        exact ⟨rfl, HB3.out.alloc HB3.out.size _⟩
    · rw [mendA_no hyes] at HIM HSM
      simp only [DAns, noD] at HIM HSM
      have HEQ := Lib.hid (fun W => eq_disk W ⟨#[]⟩ ⟨#[]⟩)
      clear hyes hK HMA HON
      have HB2 := Lib.hid (hb1.alloc hb1.size (.cells #[.string k, .string r] 30))
      clear hb1
      have c0 := cell_of_row _ _ 0 _ _ (0, 0) hd
      have c1 := cell_of_row _ _ 1 _ _ (0, 0) hd
      simp only [List.getElem?_toArray, List.getElem?_cons_zero, List.getElem?_cons_succ] at c0 c1
      go_upto_region 4 with fail
      obtain ⟨gd, hgd⟩ : ∃ gd, gd = w1.heap.size := ⟨_, rfl⟩
      have hlt1 : gd < (w1.alloc (.cells #[.string k, .string r] 30)).heap.size := by rw [World.size_alloc]; omega
      rw [← hgd] at hd c0 c1 ⊢
      generalize w1.alloc (.cells #[.string k, .string r] 30) = W1 at *
      clear hgd HB1 HDRAW HV
      have HDa := Lib.hid hd
      clear hd
      go_wp2_with fail
      refine (HIM.out _).mono ?_
      rintro e w2 ⟨rfl, hb2⟩
      have hd2 := (hb2.block gd hlt1).trans HDa.out
      have HD2 := Lib.hid hd2
      have HBb := Lib.hid (HB2.out.trans (hb2.mono HB2.out.size))
      have hlt2 := blk_lt hd2
      clear c0 c1 hb2
      have c0 := cell_of_row _ _ 0 _ _ (0, 0) hd2
      have c1 := cell_of_row _ _ 1 _ _ (0, 0) hd2
      simp only [List.getElem?_toArray, List.getElem?_cons_zero, List.getElem?_cons_succ] at c0 c1
      clear hd2
      go_wp2_with fail
      refine (HSM.out _).mono ?_
      rintro e w3 ⟨rfl, hb3⟩
      have hlt2e : w2.heap.size < (w2.alloc (.cells #[.string ⟨#[]⟩, .string ⟨#[]⟩] 30)).heap.size := by rw [World.size_alloc]; omega
      have he3 := (hb3.block w2.heap.size hlt2e).trans (heap_alloc_new w2 _)
      have HB3 := Lib.hid ((HBb.out.alloc HBb.out.size (.cells #[.string ⟨#[]⟩, .string ⟨#[]⟩] 30)).trans (hb3.mono (HBb.out.alloc HBb.out.size (.cells #[.string ⟨#[]⟩, .string ⟨#[]⟩] 30)).size))
      have hle3 := blk_lt he3
      clear c0 c1 hb3 hlt2 hlt2e hlt1
      have x0 := cell_of_row _ _ 0 _ _ (0, 0) he3
      have x1 := cell_of_row _ _ 1 _ _ (0, 0) he3
      simp only [List.getElem?_toArray, List.getElem?_cons_zero, List.getElem?_cons_succ] at x0 x1
      clear he3
      have heq := HEQ.out
      go_wp2
      go_ret
      exact ⟨rfl, HB3.out.alloc HB3.out.size _⟩
  · have HV := Lib.hid (fun W => vBig_yes A n c W (by omega))
    clear hn h hm
    go_enter Try.func5, Try.ntmps5
    go_wp2_with fail
    refine (HV.out _).mono ?_
    rintro e w1 ⟨rfl, rfl⟩
    go_wp2
    go_ret
    exact ⟨rfl, Below.refl _ _⟩
end Go.Proofs.Ytcjejbnogghkcaa.Dk
