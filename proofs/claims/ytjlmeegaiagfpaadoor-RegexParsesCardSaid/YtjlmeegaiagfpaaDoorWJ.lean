/- Texts of earlier layers, merged: W49, W49a, W49b. -/
import Derived.Test.YtjlmeegaiagfpaaDoorWI
import Derived.Deep.DeepCutAuto
import Derived.Deep.CutBlock
namespace Go.Proofs.YtjlmeegaiagfpaaDoor
open Go.RowKit
open Go.Tree7
open S7
open S5 (nl nl_length nl_small at_nl nl_at Gives idx idx_at ix ix_no ix_yes)
theorem infoO : (Tryd.prog.info? 58).map (fun i => (i.zero, i.size, i.bytes)) = some (some (.agg #[.slice none 0 0, .slice none 0 0]), 2, 48) := by kernel_rfl
/-- What another theorem shows: no tactic takes it for a fact at hand. -/
structure Owed (A : Prop) : Prop where
  out : A
/-- What is left to show of the reference's Parse, in five parts. -/
structure Cuts (M : Prop) where
  (c_end c_mark c_open c_bar c_atom : Prop)
  whole : Owed c_end → Owed c_mark → Owed c_open → Owed c_bar → Owed c_atom → M
set_option cleanup.letToHave false in
set_option maxRecDepth 100000 in
set_option maxHeartbeats 60000000 in
def rp_cuts {s : ByteArray} {out : Out} (hrun : Run (nl s) [([], [])] false 0 out) (hm : s.size ≤ 700) (w : World) : Cuts (Calls Tryd.prog 8 #[.string s] w (GivesRP s w out)) := by
  refine ⟨?c_end, ?c_mark, ?c_open, ?c_bar, ?c_atom, fun h_end h_mark h_open h_bar h_atom => ?whole⟩
  case whole =>
    have hG : ∃ G, G = GivesRP s w out := ⟨_, rfl⟩
    obtain ⟨G, hG⟩ := hG
    rw [← hG]
    replace hG := Lib.hid hG
    replace hrun := Lib.hid hrun
    go_enter Tryd.func8, Tryd.ntmps8
    go_wp2
    go_loopw [6, 7, 8] (fun v fv av wr => Hid (RpRel s w out v fv av wr)) (fun _ _ av _ => s.size - (intOf av).toNat)
    case atStart => exact Lib.hid (rp_start hrun.out w)
    case round =>
      obtain ⟨g, cap, os, p, fr, k, rfl, rfl, rfl, hk, hst, hr⟩ := hrel.out
      obtain ⟨hg2, hgl, hoc, hcm⟩ := hst.lt
      have hcap : cap ≤ 9223372036854775807 := by unfold maxLen at hcm; omega
      have hn := nl_length s
      by_cases hlt : k < s.size
      · skip
        obtain ⟨os', o1, rfl, hp⟩ := hst.top
        subst hp
        obtain ⟨c, h0⟩ : ∃ c, (nl s)[k]? = some c := ⟨_, List.getElem?_eq_getElem (by omega)⟩
        obtain ⟨hlt9, hat⟩ := at_nl h0
        obtain ⟨c0, c1, f0, f1⟩ := hst.pil.cell (i := os'.length) (by simp)
        obtain ⟨e1, e2⟩ := hst.each o1 (by simp)
        obtain ⟨n1, n2⟩ := hst.small o1 (by simp)
        have hfew := hst.few
        have hsx : (os' ++ [o1])[os'.length]'(by simp) = o1 := by simp
        rw [hsx] at c0 c1
        clear hsx
        have hll : (os' ++ [o1]).length = os'.length + 1 := by simp
        rw [hll] at hfew hoc
        have hkb : k ≤ 700 := by omega
        obtain ⟨bv, pv, bs, ps⟩ := o1
        simp only at c0 c1 e1 e2 n1 n2
        obtain ⟨bp, bc, rfl, hbc, hbl⟩ := e1.form
        obtain ⟨pp, pc, rfl, hpc, hpl⟩ := e2.form
        have hwl : w.heap.size + 1 < wr.heap.size := by omega
        have hwl0 : w.heap.size < wr.heap.size := by omega
        replace hst := Lib.hid hst
        replace hr := Lib.hid hr
        replace hn := Lib.hid hn
        replace e1 := Lib.hid e1
        replace e2 := Lib.hid e2
        rw [hll]
        clear hll
        have hlq : Hid ((os' ++ [(⟨.slice bp bs.length bc, .slice pp ps.length pc, bs, ps⟩ : Opn)]).length = os'.length + 1) := Lib.hid (by simp)

        by_cases hmk : fr = true ∧ IsMark (nl s) k
        · skip
          rename_i z09 z19 z29
          revert G hG hrun z19 z29 wr u3 u4 u9 u10 u11 u12 u13 u14 u15 u16 u17 u18 u19 u20 u21 u22 u23 u24 u32 u33 u34 u35 u36 u37 u38 u39 u40 u41 u42 u43 u44 u45 u46 u47 u48 u49 u50 u51 u52 u53 u54 u55 u56 u57 u58 u59 u60 u61 u62 u63 u64 u65 u66 u67 u68 u69 u70 u71 u72 u73 u74 u75 u76 u77 u78 u79 u80 u81 u82 u83 u84 u85 u86 u87 u88 u89 u90 u91 u92 u93 u94 u95 u96 u97 u98 u99 u100 u101 u102 u103 u104 u105 u106 u107 u108 u109 u110 u111 u112 u113 u114 u115 u116 u117 u118 u119 u120 u121 u122 u123 u124 u125 u126 u127 u128 u129 u130 u131 u132 u133 u134 u135 u136 u137 u138 u139 u140 u141 u142 u143 u144 u145 u146 u147 u148 u149 u150 u151 u152 u153 u154 u155 u156 u157 u158 u159 u160 u161 u162 u163 u164 u165 u166 u167 u168 u169 u170 u171 u172 u173 u174 u175 u176 u177 u178 u179 u180 u181 u182 u183 u184 u185 u186 u187 u188 u189 u190 u191 u192 u193 u194 u195 u196 g cap fr k hk hg2 hgl hcm hcap hlt os' hoc c h0 hlt9 hat f0 f1 hfew hkb bs ps n1 n2 bp bc c0 hbc hbl pp pc c1 hrel hpc hpl hwl hwl0 hst hr hn e1 e2 hlq hmk
          exact h_mark.out
        · have hnm : fr = true → c ≠ 43 ∧ c ≠ 63 ∧ c ≠ 42 ∧ (c = 123 → ¬ Dg (nl s) (k + 1)) := fun h => by
            refine ⟨fun e => ?_, fun e => ?_, fun e => ?_, fun e hd => ?_⟩ <;> (subst e; refine hmk ⟨h, ?_⟩)
            · exact .inr (.inl h0)
            · exact .inr (.inr (.inl h0))
            · exact .inl h0
            · exact .inr (.inr (.inr ⟨h0, hd⟩))
          replace hnm := Lib.hid hnm
          replace h0 := Lib.hid h0
          replace hmk := Lib.hid hmk
          go_upto_region 10 with (fail)
          clear hat
          go_cut [51] (fun s51 wx => s51 = .bool false ∧ wx = (wr.alloc (.cells #[.slice bp bs.length bc, .slice pp ps.length pc] 58)))
          case first =>
            cases fr
            · go_wp2_with (fail)
              go_meet
              exact ⟨rfl, rfl⟩
            · obtain ⟨g1, -⟩ := hnm.out rfl
              have g43 : ((c : Int) == 43) = false := by rw [beq_eq_false_iff_ne]; omega
              go_wp2_with (fail)
              go_meet
              exact ⟨rfl, rfl⟩

          case rest =>
            obtain ⟨rfl, rfl⟩ := hcut
            go_upto_if 51 with (fail)
            go_cut [8, 14] (fun s8 s14 wx => s8 = .int .i64 k ∧ s14 = .bool false ∧ wx = (wr.alloc (.cells #[.slice bp bs.length bc, .slice pp ps.length pc] 58)))
            case first =>
              cases fr
              · go_wp2_with (fail)
                go_meet
                exact ⟨rfl, rfl, rfl⟩
              · obtain ⟨-, g2, g3, g4⟩ := hnm.out rfl
                have g63 : ((c : Int) == 63) = false := by rw [beq_eq_false_iff_ne]; omega
                have g42 : ((c : Int) != 42) = true := by rw [bne_iff_ne]; omega
                by_cases h123 : c = 123
                · have cD := Lib.hid (fun w => rdig_no' (i := (k : Int) + 1) (by omega) (g4 h123) (by omega : s.size ≤ 99990) (by omega) w)
                  have g123 : ((c : Int) == 123) = true := by rw [beq_iff_eq]; omega
                  clear g4
                  replace h123 := Lib.hid h123
                  go_wp2_with (go_at_call 22; (with_reducible refine (cD.out _).mono ?_); rintro e w' ⟨rfl, rfl⟩)
                  go_meet
                  exact ⟨rfl, rfl, rfl⟩
                · have g123 : ((c : Int) == 123) = false := by rw [beq_eq_false_iff_ne]; omega
                  clear g4
                  go_wp2_with (fail)
                  go_meet
                  exact ⟨rfl, rfl, rfl⟩

            case rest =>
              obtain ⟨rfl, rfl, rfl⟩ := hcut
              have hBw := Lib.hid (Bel.new wr (.cells #[.slice bp bs.length bc, .slice pp ps.length pc] 58))
              have hst3 := Lib.hid (hst.out.step hBw.out)
              have hbx := Lib.hid (World.alloc_heap_new wr (.cells #[.slice bp bs.length bc, .slice pp ps.length pc] 58))
              have hwz : wr.heap.size < (wr.alloc (.cells #[.slice bp bs.length bc, .slice pp ps.length pc] 58)).heap.size := by rw [World.size_alloc]; omega
              obtain ⟨wq, hWq⟩ : ∃ wq, (wr.alloc (.cells #[.slice bp bs.length bc, .slice pp ps.length pc] 58)) = wq := ⟨_, rfl⟩
              rw [hWq] at hBw hst3 hbx hwz ⊢
              clear hWq c0 c1 f0 f1
              by_cases h40 : c = 40
              · skip
                rename_i z09 z19 z29 z39 z49 z59 z69 z79 z89 z99 z109 z119 z129 z139 z149 z159 z169 z179 z189 z199 z209 z219 z229 z239 z249 z259 z269 z279 z289 z299 z309 z319 z329 z339 z349 z359 z369 z379 z389 z399 z409 z419 z429 z439 z449 z459 z469 z479 z489 z499 z509 z519 z529 z539 z549 z559 z569 z579 z589 z599 z609 z619 z629 z639 z649 z659 z669 z679 z689 z699 z709 z719 z729 z739 z749 z759 z769 z779 z789 z799 z809 z819 z829 z839 z849 z859 z869 z879 z889 z899 z909 z919 z929 z939 z949 z959 z969 z979 z989 z999 z1009 z1019 z1029 z1039 z1049 z1059 z1069 z1079 z1089 z1099 z1109 z1119 z1129 z1139 z1149 z1159 z1169 z1179 z1189 z1199 z1209 z1219 z1229 z1239 z1249 z1259 z1269 z1279 z1289 z1299 z1309 z1319 z1329 z1339 z1349 z1359 z1369 z1379 z1389 z1399 z1409 z1419 z1429 z1439 z1449 z1459 z1469 z1479 z1489 z1499 z1509 z1519 z1529 z1539 z1549 z1559 z1569 z1579 z1589 z1599 z1609 z1619 z1629 z1639 z1649 z1659 z1669 z1679 z1689 z1699 z1709 z1719 z1729 z1739 z1749 z1759 z1769 z1779 z1789 z1799 z1809 z1819 z1829 z1839 z1849 z1859 z1869 z1879 z1889 z1899 z1909 z1919 z1929 z1939 z1949 z1959 z1969 z1979 z1989 z1999 z2009 z2019 z2029 z2039 z2049 z2059 z2069 z2079 z2089 z2099 z2109 z2119 z2129 z2139 z2149 z2159 z2169 z2179 z2189 z2199 z2209 z2219 z2229 z2239 z2249 z2259 z2269 z2279 z2289 z2299 z2309 z2319 z2329 z2339 z2349 z2359 z2369 z2379 z2389 z2399 z2409 z2419 z2429 z2439 z2449 z2459 z2469 z2479 z2489 z2499 z2509 z2519 z2529 z2539 z2549 z2559 z2569 z2579 z2589 z2599 z2609 z2619 z2629 z2639 z2649 z2659 z2669 z2679 z2689 z2699 z2709 z2719 z2729 z2739 z2749 z2759 z2769 z2779 z2789 z2799 z2809 z2819 z2829 z2839 z2849 z2859 z2869 z2879 z2889 z2899 z2909 z2919 z2929 z2939 z2949 z2959 z2969 z2979 z2989 z2999 z3009 z3019 z3029 z3039 z3049 z3059 z3069 z3079 z3089 z3099 z3109 z3119 z3129 z3139 z3149 z3159 z3169 z3179 z3189 z3199 z3209 z3219 z3229 z3239 z3249 z3259 z3269 z3279 z3289 z3299 z3309 z3319 z3329 z3339 z3349 z3359 z3369 z3379 z3389 z3399 z3409 z3419 z3429
                revert G hG hrun z19 z29 wr z39 z49 u9 u10 u11 z59 z69 u14 z79 z89 z99 z109 u19 u20 u21 u22 u23 u24 z119 z129 z139 z149 z159 z169 z179 z189 z199 z209 z219 z229 z239 z249 z259 z269 z279 z289 z299 z309 z319 z329 z339 z349 z359 z369 z379 z389 z399 z409 z419 z429 z439 z449 z459 z469 z479 z489 z499 z509 z519 z529 z539 z549 z559 z569 z579 z589 z599 z609 z619 z629 z639 z649 z659 z669 z679 z689 z699 z709 z719 z729 z739 z749 z759 z769 z779 z789 z799 z809 z819 z829 z839 z849 z859 z869 z879 z889 z899 z909 z919 z929 z939 z949 z959 z969 z979 z989 z999 z1009 z1019 z1029 z1039 z1049 z1059 z1069 z1079 z1089 z1099 z1109 z1119 z1129 z1139 z1149 z1159 z1169 z1179 z1189 z1199 z1209 z1219 z1229 z1239 z1249 z1259 z1269 z1279 z1289 z1299 z1309 z1319 z1329 z1339 z1349 z1359 z1369 z1379 z1389 z1399 z1409 z1419 z1429 z1439 z1449 z1459 z1469 z1479 z1489 z1499 z1509 z1519 z1529 z1539 z1549 z1559 z1569 z1579 z1589 z1599 z1609 z1619 z1629 z1639 z1649 z1659 z1669 z1679 z1689 z1699 z1709 z1719 z1729 z1739 z1749 z1759 g cap fr k hk hg2 hgl hcm hcap hlt os' hoc c hlt9 hfew hkb bs ps n1 n2 bp bc hbc hbl pp pc hrel hpc hpl hwl hwl0 hst hr hn e1 e2 hlq hnm h0 hmk z1769 z1779 z1789 z1799 z1809 z1819 z1829 z1839 z1849 z1859 z1869 z1879 z1889 z1899 z1909 z1919 z1929 z1939 z1949 z1959 z1969 z1979 z1989 z1999 z2009 z2019 z2029 z2039 z2049 z2059 z2069 z2079 z2089 z2099 z2109 z2119 z2129 z2139 z2149 z2159 z2169 z2179 z2189 z2199 z2209 z2219 z2229 z2239 z2249 z2259 z2269 z2279 z2289 z2299 z2309 z2319 z2329 z2339 z2349 z2359 z2369 z2379 z2389 z2399 z2409 z2419 z2429 z2439 z2449 z2459 z2469 z2479 z2489 z2499 z2509 z2519 z2529 z2539 z2549 z2559 z2569 z2579 z2589 z2599 z2609 z2619 z2629 z2639 z2649 z2659 z2669 z2679 z2689 z2699 z2709 z2719 z2729 z2739 z2749 z2759 z2769 z2779 z2789 z2799 z2809 z2819 z2829 z2839 z2849 z2859 z2869 z2879 z2889 z2899 z2909 z2919 z2929 z2939 z2949 z2959 z2969 z2979 z2989 z2999 z3009 z3019 z3029 z3039 z3049 z3059 z3069 z3079 z3089 z3099 z3109 z3119 z3129 z3139 z3149 z3159 z3169 z3179 z3189 z3199 z3209 z3219 z3229 z3239 z3249 z3259 z3269 z3279 z3289 z3299 z3309 z3319 z3329 z3339 z3349 z3359 z3369 z3379 z3389 z3399 z3409 z3419 z3429 u3 u4 u12 u13 u15 u16 u17 u18 u32 u33 u34 u35 u36 u37 u38 u39 u40 u41 u42 u43 u44 u45 u46 u47 u48 u49 u50 u51 u52 u53 u54 u55 u56 u57 u58 u59 u60 u61 u62 u63 u64 u65 u66 u67 u68 u69 u70 u71 u72 u73 u74 u75 u76 u77 u78 u79 u80 u81 u82 u83 u84 u85 u86 u87 u88 u89 u90 u91 u92 u93 u94 u95 u96 u97 u98 u99 u100 u101 u102 u103 u104 u105 u106 u107 u108 u109 u110 u111 u112 u113 u114 u115 u116 u117 u118 u119 u120 u121 u122 u123 u124 u125 u126 u127 u128 u129 u130 u131 u132 u133 u134 u135 u136 u137 u138 u139 u140 u141 u142 u143 u144 u145 u146 u147 u148 u149 u150 u151 u152 u153 u154 u155 u156 u157 u158 u159 u160 u161 u162 u163 u164 u165 u166 u167 u168 u169 u170 u171 u172 u173 u174 u175 u176 u177 u178 u179 u180 u181 u182 u183 u184 u185 u186 u187 u188 u189 u190 u191 u192 u193 u194 u195 u196 wq hwz hbx hst3 hBw h40
                exact h_open.out
              · have g40 : ((c : Int) == 40) = false := by rw [beq_eq_false_iff_ne]; omega
                by_cases h124 : c = 124
                · skip
                  rename_i z09 z19 z29 z39 z49 z59 z69 z79 z89 z99 z109 z119 z129 z139 z149 z159 z169 z179 z189 z199 z209 z219 z229 z239 z249 z259 z269 z279 z289 z299 z309 z319 z329 z339 z349 z359 z369 z379 z389 z399 z409 z419 z429 z439 z449 z459 z469 z479 z489 z499 z509 z519 z529 z539 z549 z559 z569 z579 z589 z599 z609 z619 z629 z639 z649 z659 z669 z679 z689 z699 z709 z719 z729 z739 z749 z759 z769 z779 z789 z799 z809 z819 z829 z839 z849 z859 z869 z879 z889 z899 z909 z919 z929 z939 z949 z959 z969 z979 z989 z999 z1009 z1019 z1029 z1039 z1049 z1059 z1069 z1079 z1089 z1099 z1109 z1119 z1129 z1139 z1149 z1159 z1169 z1179 z1189 z1199 z1209 z1219 z1229 z1239 z1249 z1259 z1269 z1279 z1289 z1299 z1309 z1319 z1329 z1339 z1349 z1359 z1369 z1379 z1389 z1399 z1409 z1419 z1429 z1439 z1449 z1459 z1469 z1479 z1489 z1499 z1509 z1519 z1529 z1539 z1549 z1559 z1569 z1579 z1589 z1599 z1609 z1619 z1629 z1639 z1649 z1659 z1669 z1679 z1689 z1699 z1709 z1719 z1729 z1739 z1749 z1759 z1769 z1779 z1789 z1799 z1809 z1819 z1829 z1839 z1849 z1859 z1869 z1879 z1889 z1899 z1909 z1919 z1929 z1939 z1949 z1959 z1969 z1979 z1989 z1999 z2009 z2019 z2029 z2039 z2049 z2059 z2069 z2079 z2089 z2099 z2109 z2119 z2129 z2139 z2149 z2159 z2169 z2179 z2189 z2199 z2209 z2219 z2229 z2239 z2249 z2259 z2269 z2279 z2289 z2299 z2309 z2319 z2329 z2339 z2349 z2359 z2369 z2379 z2389 z2399 z2409 z2419 z2429 z2439 z2449 z2459 z2469 z2479 z2489 z2499 z2509 z2519 z2529 z2539 z2549 z2559 z2569 z2579 z2589 z2599 z2609 z2619 z2629 z2639 z2649 z2659 z2669 z2679 z2689 z2699 z2709 z2719 z2729 z2739 z2749 z2759 z2769 z2779 z2789 z2799 z2809 z2819 z2829 z2839 z2849 z2859 z2869 z2879 z2889 z2899 z2909 z2919 z2929 z2939 z2949 z2959 z2969 z2979 z2989 z2999 z3009 z3019 z3029 z3039 z3049 z3059 z3069 z3079 z3089 z3099 z3109 z3119 z3129 z3139 z3149 z3159 z3169 z3179 z3189 z3199 z3209 z3219 z3229 z3239 z3249 z3259 z3269 z3279 z3289 z3299 z3309 z3319 z3329 z3339 z3349 z3359 z3369 z3379 z3389 z3399 z3409 z3419 z3429
                  revert G hG hrun z19 z29 wr z39 z49 u9 u10 u11 z59 z69 u14 z79 z89 z99 z109 u19 u20 u21 u22 u23 u24 z119 z129 z139 z149 z159 z169 z179 z189 z199 z209 z219 z229 z239 z249 z259 z269 z279 z289 z299 z309 z319 z329 z339 z349 z359 z369 z379 z389 z399 z409 z419 z429 z439 z449 z459 z469 z479 z489 z499 z509 z519 z529 z539 z549 z559 z569 z579 z589 z599 z609 z619 z629 z639 z649 z659 z669 z679 z689 z699 z709 z719 z729 z739 z749 z759 z769 z779 z789 z799 z809 z819 z829 z839 z849 z859 z869 z879 z889 z899 z909 z919 z929 z939 z949 z959 z969 z979 z989 z999 z1009 z1019 z1029 z1039 z1049 z1059 z1069 z1079 z1089 z1099 z1109 z1119 z1129 z1139 z1149 z1159 z1169 z1179 z1189 z1199 z1209 z1219 z1229 z1239 z1249 z1259 z1269 z1279 z1289 z1299 z1309 z1319 z1329 z1339 z1349 z1359 z1369 z1379 z1389 z1399 z1409 z1419 z1429 z1439 z1449 z1459 z1469 z1479 z1489 z1499 z1509 z1519 z1529 z1539 z1549 z1559 z1569 z1579 z1589 z1599 z1609 z1619 z1629 z1639 z1649 z1659 z1669 z1679 z1689 z1699 z1709 z1719 z1729 z1739 z1749 z1759 g cap fr k hk hg2 hgl hcm hcap hlt os' hoc c hlt9 hfew hkb bs ps n1 n2 bp bc hbc hbl pp pc hrel hpc hpl hwl hwl0 hst hr hn e1 e2 hlq hnm h0 hmk z1769 z1779 z1789 z1799 z1809 z1819 z1829 z1839 z1849 z1859 z1869 z1879 z1889 z1899 z1909 z1919 z1929 z1939 z1949 z1959 z1969 z1979 z1989 z1999 z2009 z2019 z2029 z2039 z2049 z2059 z2069 z2079 z2089 z2099 z2109 z2119 z2129 z2139 z2149 z2159 z2169 z2179 z2189 z2199 z2209 z2219 z2229 z2239 z2249 z2259 z2269 z2279 z2289 z2299 z2309 z2319 z2329 z2339 z2349 z2359 z2369 z2379 z2389 z2399 z2409 z2419 z2429 z2439 z2449 z2459 z2469 z2479 z2489 z2499 z2509 z2519 z2529 z2539 z2549 z2559 z2569 z2579 z2589 z2599 z2609 z2619 z2629 z2639 z2649 z2659 z2669 z2679 z2689 z2699 z2709 z2719 z2729 z2739 z2749 z2759 z2769 z2779 z2789 z2799 z2809 z2819 z2829 z2839 z2849 z2859 z2869 z2879 z2889 z2899 z2909 z2919 z2929 z2939 z2949 z2959 z2969 z2979 z2989 z2999 z3009 z3019 z3029 z3039 z3049 z3059 z3069 z3079 z3089 z3099 z3109 z3119 z3129 z3139 z3149 z3159 z3169 z3179 z3189 z3199 z3209 z3219 z3229 z3239 z3249 z3259 z3269 z3279 z3289 z3299 z3309 z3319 z3329 z3339 z3349 z3359 z3369 z3379 z3389 z3399 z3409 z3419 z3429 u3 u4 u12 u13 u15 u16 u17 u18 u32 u33 u34 u35 u36 u37 u38 u39 u40 u41 u42 u43 u44 u45 u46 u47 u48 u49 u50 u51 u52 u53 u54 u55 u56 u57 u58 u59 u60 u61 u62 u63 u64 u65 u66 u67 u68 u69 u70 u71 u72 u73 u74 u75 u76 u77 u78 u79 u80 u81 u82 u83 u84 u85 u86 u87 u88 u89 u90 u91 u92 u93 u94 u95 u96 u97 u98 u99 u100 u101 u102 u103 u104 u105 u106 u107 u108 u109 u110 u111 u112 u113 u114 u115 u116 u117 u118 u119 u120 u121 u122 u123 u124 u125 u126 u127 u128 u129 u130 u131 u132 u133 u134 u135 u136 u137 u138 u139 u140 u141 u142 u143 u144 u145 u146 u147 u148 u149 u150 u151 u152 u153 u154 u155 u156 u157 u158 u159 u160 u161 u162 u163 u164 u165 u166 u167 u168 u169 u170 u171 u172 u173 u174 u175 u176 u177 u178 u179 u180 u181 u182 u183 u184 u185 u186 u187 u188 u189 u190 u191 u192 u193 u194 u195 u196 wq hwz hbx hst3 hBw h40 g40 h124
                  exact h_bar.out
                · skip
                  rename_i z09 z19 z29 z39 z49 z59 z69 z79 z89 z99 z109 z119 z129 z139 z149 z159 z169 z179 z189 z199 z209 z219 z229 z239 z249 z259 z269 z279 z289 z299 z309 z319 z329 z339 z349 z359 z369 z379 z389 z399 z409 z419 z429 z439 z449 z459 z469 z479 z489 z499 z509 z519 z529 z539 z549 z559 z569 z579 z589 z599 z609 z619 z629 z639 z649 z659 z669 z679 z689 z699 z709 z719 z729 z739 z749 z759 z769 z779 z789 z799 z809 z819 z829 z839 z849 z859 z869 z879 z889 z899 z909 z919 z929 z939 z949 z959 z969 z979 z989 z999 z1009 z1019 z1029 z1039 z1049 z1059 z1069 z1079 z1089 z1099 z1109 z1119 z1129 z1139 z1149 z1159 z1169 z1179 z1189 z1199 z1209 z1219 z1229 z1239 z1249 z1259 z1269 z1279 z1289 z1299 z1309 z1319 z1329 z1339 z1349 z1359 z1369 z1379 z1389 z1399 z1409 z1419 z1429 z1439 z1449 z1459 z1469 z1479 z1489 z1499 z1509 z1519 z1529 z1539 z1549 z1559 z1569 z1579 z1589 z1599 z1609 z1619 z1629 z1639 z1649 z1659 z1669 z1679 z1689 z1699 z1709 z1719 z1729 z1739 z1749 z1759 z1769 z1779 z1789 z1799 z1809 z1819 z1829 z1839 z1849 z1859 z1869 z1879 z1889 z1899 z1909 z1919 z1929 z1939 z1949 z1959 z1969 z1979 z1989 z1999 z2009 z2019 z2029 z2039 z2049 z2059 z2069 z2079 z2089 z2099 z2109 z2119 z2129 z2139 z2149 z2159 z2169 z2179 z2189 z2199 z2209 z2219 z2229 z2239 z2249 z2259 z2269 z2279 z2289 z2299 z2309 z2319 z2329 z2339 z2349 z2359 z2369 z2379 z2389 z2399 z2409 z2419 z2429 z2439 z2449 z2459 z2469 z2479 z2489 z2499 z2509 z2519 z2529 z2539 z2549 z2559 z2569 z2579 z2589 z2599 z2609 z2619 z2629 z2639 z2649 z2659 z2669 z2679 z2689 z2699 z2709 z2719 z2729 z2739 z2749 z2759 z2769 z2779 z2789 z2799 z2809 z2819 z2829 z2839 z2849 z2859 z2869 z2879 z2889 z2899 z2909 z2919 z2929 z2939 z2949 z2959 z2969 z2979 z2989 z2999 z3009 z3019 z3029 z3039 z3049 z3059 z3069 z3079 z3089 z3099 z3109 z3119 z3129 z3139 z3149 z3159 z3169 z3179 z3189 z3199 z3209 z3219 z3229 z3239 z3249 z3259 z3269 z3279 z3289 z3299 z3309 z3319 z3329 z3339 z3349 z3359 z3369 z3379 z3389 z3399 z3409 z3419 z3429
                  revert G hG hrun z19 z29 wr z39 z49 u9 u10 u11 z59 z69 u14 z79 z89 z99 z109 u19 u20 u21 u22 u23 u24 z119 z129 z139 z149 z159 z169 z179 z189 z199 z209 z219 z229 z239 z249 z259 z269 z279 z289 z299 z309 z319 z329 z339 z349 z359 z369 z379 z389 z399 z409 z419 z429 z439 z449 z459 z469 z479 z489 z499 z509 z519 z529 z539 z549 z559 z569 z579 z589 z599 z609 z619 z629 z639 z649 z659 z669 z679 z689 z699 z709 z719 z729 z739 z749 z759 z769 z779 z789 z799 z809 z819 z829 z839 z849 z859 z869 z879 z889 z899 z909 z919 z929 z939 z949 z959 z969 z979 z989 z999 z1009 z1019 z1029 z1039 z1049 z1059 z1069 z1079 z1089 z1099 z1109 z1119 z1129 z1139 z1149 z1159 z1169 z1179 z1189 z1199 z1209 z1219 z1229 z1239 z1249 z1259 z1269 z1279 z1289 z1299 z1309 z1319 z1329 z1339 z1349 z1359 z1369 z1379 z1389 z1399 z1409 z1419 z1429 z1439 z1449 z1459 z1469 z1479 z1489 z1499 z1509 z1519 z1529 z1539 z1549 z1559 z1569 z1579 z1589 z1599 z1609 z1619 z1629 z1639 z1649 z1659 z1669 z1679 z1689 z1699 z1709 z1719 z1729 z1739 z1749 z1759 g cap fr k hk hg2 hgl hcm hcap hlt os' hoc c hlt9 hfew hkb bs ps n1 n2 bp bc hbc hbl pp pc hrel hpc hpl hwl hwl0 hst hr hn e1 e2 hlq hnm h0 hmk z1769 z1779 z1789 z1799 z1809 z1819 z1829 z1839 z1849 z1859 z1869 z1879 z1889 z1899 z1909 z1919 z1929 z1939 z1949 z1959 z1969 z1979 z1989 z1999 z2009 z2019 z2029 z2039 z2049 z2059 z2069 z2079 z2089 z2099 z2109 z2119 z2129 z2139 z2149 z2159 z2169 z2179 z2189 z2199 z2209 z2219 z2229 z2239 z2249 z2259 z2269 z2279 z2289 z2299 z2309 z2319 z2329 z2339 z2349 z2359 z2369 z2379 z2389 z2399 z2409 z2419 z2429 z2439 z2449 z2459 z2469 z2479 z2489 z2499 z2509 z2519 z2529 z2539 z2549 z2559 z2569 z2579 z2589 z2599 z2609 z2619 z2629 z2639 z2649 z2659 z2669 z2679 z2689 z2699 z2709 z2719 z2729 z2739 z2749 z2759 z2769 z2779 z2789 z2799 z2809 z2819 z2829 z2839 z2849 z2859 z2869 z2879 z2889 z2899 z2909 z2919 z2929 z2939 z2949 z2959 z2969 z2979 z2989 z2999 z3009 z3019 z3029 z3039 z3049 z3059 z3069 z3079 z3089 z3099 z3109 z3119 z3129 z3139 z3149 z3159 z3169 z3179 z3189 z3199 z3209 z3219 z3229 z3239 z3249 z3259 z3269 z3279 z3289 z3299 z3309 z3319 z3329 z3339 z3349 z3359 z3369 z3379 z3389 z3399 z3409 z3419 z3429 u3 u4 u12 u13 u15 u16 u17 u18 u32 u33 u34 u35 u36 u37 u38 u39 u40 u41 u42 u43 u44 u45 u46 u47 u48 u49 u50 u51 u52 u53 u54 u55 u56 u57 u58 u59 u60 u61 u62 u63 u64 u65 u66 u67 u68 u69 u70 u71 u72 u73 u74 u75 u76 u77 u78 u79 u80 u81 u82 u83 u84 u85 u86 u87 u88 u89 u90 u91 u92 u93 u94 u95 u96 u97 u98 u99 u100 u101 u102 u103 u104 u105 u106 u107 u108 u109 u110 u111 u112 u113 u114 u115 u116 u117 u118 u119 u120 u121 u122 u123 u124 u125 u126 u127 u128 u129 u130 u131 u132 u133 u134 u135 u136 u137 u138 u139 u140 u141 u142 u143 u144 u145 u146 u147 u148 u149 u150 u151 u152 u153 u154 u155 u156 u157 u158 u159 u160 u161 u162 u163 u164 u165 u166 u167 u168 u169 u170 u171 u172 u173 u174 u175 u176 u177 u178 u179 u180 u181 u182 u183 u184 u185 u186 u187 u188 u189 u190 u191 u192 u193 u194 u195 u196 wq hwz hbx hst3 hBw h40 g40 h124
                  exact h_atom.out
      · skip
        rename_i z09 z19 z29
        revert G hG hrun z19 z29 wr u3 u4 u9 u10 u11 u12 u13 u14 u15 u16 u17 u18 u19 u20 u21 u22 u23 u24 u32 u33 u34 u35 u36 u37 u38 u39 u40 u41 u42 u43 u44 u45 u46 u47 u48 u49 u50 u51 u52 u53 u54 u55 u56 u57 u58 u59 u60 u61 u62 u63 u64 u65 u66 u67 u68 u69 u70 u71 u72 u73 u74 u75 u76 u77 u78 u79 u80 u81 u82 u83 u84 u85 u86 u87 u88 u89 u90 u91 u92 u93 u94 u95 u96 u97 u98 u99 u100 u101 u102 u103 u104 u105 u106 u107 u108 u109 u110 u111 u112 u113 u114 u115 u116 u117 u118 u119 u120 u121 u122 u123 u124 u125 u126 u127 u128 u129 u130 u131 u132 u133 u134 u135 u136 u137 u138 u139 u140 u141 u142 u143 u144 u145 u146 u147 u148 u149 u150 u151 u152 u153 u154 u155 u156 u157 u158 u159 u160 u161 u162 u163 u164 u165 u166 u167 u168 u169 u170 u171 u172 u173 u174 u175 u176 u177 u178 u179 u180 u181 u182 u183 u184 u185 u186 u187 u188 u189 u190 u191 u192 u193 u194 u195 u196 g cap os p fr k hrel hk hst hr hg2 hgl hoc hcm hcap hn hlt
        exact h_end.out
end Go.Proofs.YtjlmeegaiagfpaaDoor

namespace Go.Proofs.YtjlmeegaiagfpaaDoor
open Go.RowKit
open Go.Tree7
open S7
open S5 (nl nl_length nl_small at_nl nl_at Gives idx idx_at ix ix_no ix_yes)
set_option maxRecDepth 100000 in
set_option maxHeartbeats 60000000 in
theorem rp_end {s : ByteArray} {out : Out} (hrun : Run (nl s) [([], [])] false 0 out) (hm : s.size ≤ 700) (w : World) : (rp_cuts hrun hm w).c_end := by
  intro G hG hrun _ _ wr u3 u4 u9 u10 u11 u12 u13 u14 u15 u16 u17 u18 u19 u20 u21 u22 u23 u24 u32 u33 u34 u35 u36 u37 u38 u39 u40 u41 u42 u43 u44 u45 u46 u47 u48 u49 u50 u51 u52 u53 u54 u55 u56 u57 u58 u59 u60 u61 u62 u63 u64 u65 u66 u67 u68 u69 u70 u71 u72 u73 u74 u75 u76 u77 u78 u79 u80 u81 u82 u83 u84 u85 u86 u87 u88 u89 u90 u91 u92 u93 u94 u95 u96 u97 u98 u99 u100 u101 u102 u103 u104 u105 u106 u107 u108 u109 u110 u111 u112 u113 u114 u115 u116 u117 u118 u119 u120 u121 u122 u123 u124 u125 u126 u127 u128 u129 u130 u131 u132 u133 u134 u135 u136 u137 u138 u139 u140 u141 u142 u143 u144 u145 u146 u147 u148 u149 u150 u151 u152 u153 u154 u155 u156 u157 u158 u159 u160 u161 u162 u163 u164 u165 u166 u167 u168 u169 u170 u171 u172 u173 u174 u175 u176 u177 u178 u179 u180 u181 u182 u183 u184 u185 u186 u187 u188 u189 u190 u191 u192 u193 u194 u195 u196 g cap os p fr k hrel hk hst hr hg2 hgl hoc hcm hcap hn hlt
  obtain rfl : k = s.size := by omega
  rcases run_end hr (by omega) with ⟨o, rfl, ho⟩ | ⟨o, o', p', rfl, ho⟩
  · have hol : os.length = 1 := by have := congrArg List.length hst.rel; simpa using this
    obtain ⟨o1, rfl⟩ := List.length_eq_one_iff.1 hol
    have ho1 : opOf o1 = o := by have := hst.rel; simpa using this
    subst ho1
    obtain ⟨c0, c1, -, -⟩ := hst.pil.cell (i := 0) (by simp)
    simp only [Nat.zero_mul, Nat.zero_add, List.getElem_cons_zero] at c0 c1
    obtain ⟨e1, e2⟩ := hst.each o1 (by simp)
    obtain ⟨n1, n2⟩ := hst.small o1 (by simp)
    have hSC : Hid (∀ b, Sb wr (w.heap.size + 2) g b → b < wr.heap.size) := Lib.hid fun b hb => hb.2.1
    have cC := Lib.hid (rclosed_in e1 e2 hSC.out (by omega) (by omega))
    replace ho := Lib.hid ho
    generalize o1.bv = bv1 at *
    generalize o1.pv = pv1 at *
    have hwl : w.heap.size + 1 < wr.heap.size := by omega
    replace hst := Lib.hid hst
    replace hr := Lib.hid hr
    replace hn := Lib.hid hn
    simp only [List.length_cons, List.length_nil, Nat.zero_add] at *
    clear e1 e2 n1 n2 hol
    go_wp2_with (first | (go_at_call 25; (with_reducible refine cC.out.mono ?_); rintro e w1 ⟨⟨km, u0m, u1m, u2m, u3m, pm, capm, mnm, mxm, txm, ksm⟩, rfl, hb1, hm1, hs1⟩; simp only [T.cells]; have hq1 := Lib.hid (show Bel wr (w1.alloc (.cells #[.int .i64 km, .int .u64 u0m, .int .u64 u1m, .int .u64 u2m, .int .u64 u3m, .slice pm ksm.length capm, .int .i64 mnm, .int .i64 mxm, .string txm] 35)) from Bel.alloc hb1 _); have hT1 := Lib.hid (in_bel (hm1.toIn (B := w1.heap.size) fun b hb => hb.elim (fun h => Nat.lt_of_lt_of_le (hSC.out b h) hb1.size) fun h => h.2) (Bel.new w1 (.cells #[.int .i64 km, .int .u64 u0m, .int .u64 u1m, .int .u64 u2m, .int .u64 u3m, .slice pm ksm.length capm, .int .i64 mnm, .int .i64 mxm, .string txm] 35))); have cW := walk_all hT1.out; obtain ⟨SS, hSS⟩ : ∃ SS, allS (T.mk km u0m u1m u2m u3m pm capm mnm mxm txm ksm) = SS := ⟨_, rfl⟩; have hSl := allS_len (T.mk km u0m u1m u2m u3m pm capm mnm mxm txm ksm); rw [hSS] at cW hSl; replace hSS := Lib.hid hSS; simp only [T.cells] at cW; replace cW := Lib.hid cW; replace hs1 := Lib.hid hs1; have hbox := Lib.hid (World.alloc_heap_new w1 (.cells #[.int .i64 km, .int .u64 u0m, .int .u64 u1m, .int .u64 u2m, .int .u64 u3m, .slice pm ksm.length capm, .int .i64 mnm, .int .i64 mxm, .string txm] 35)); have hwz : wr.heap.size ≤ w1.heap.size := hb1.size; have hl1 : w.heap.size < w1.heap.size := (by omega); replace hm1 := Lib.hid hm1; clear hb1) | (go_at_call 27; (with_reducible refine cW.out.mono ?_); rintro e w2 ⟨v, rfl, hrow, hb2⟩; obtain ⟨pv, cv, rfl, hpg, hpc⟩ := step_at hrow; clear hrow; replace hpg := Lib.hid hpg; replace hpc := Lib.hid hpc; have hq2 := Lib.hid (show Bel wr w2 from Bel.step hq1.out hb2); have hbx2 := Lib.hid (kept_row hbox.out hb2); have hq12 := Lib.hid (show Bel (w1.alloc (.cells #[.int .i64 km, .int .u64 u0m, .int .u64 u1m, .int .u64 u2m, .int .u64 u3m, .slice pm ksm.length capm, .int .i64 mnm, .int .i64 mxm, .string txm] 35)) w2 from hb2); clear hb2))
    have hD : Hid (deepOf (allT (closedT (opOf o1))) ≤ 24 ↔ ∀ x ∈ SS, x.level ≤ 24) := Lib.hid (by
      show deepOf (allT (closedT (o1.bs.map T.strip, o1.ps.map T.strip))) ≤ 24 ↔ _
      rw [← hs1.out, deepOf_strip, allS_deep, hSS.out])
    have hCn : Hid ((allT (closedT (opOf o1))).length = SS.length) := Lib.hid (by
      show (allT (closedT (o1.bs.map T.strip, o1.ps.map T.strip))).length = _
      rw [← hs1.out, count_strip, ← hSS.out, allS_map, List.length_map])
    have hl12 : w1.heap.size < w2.heap.size := lt_of_box hbx2.out
    generalize wr = wo at *
    go_loopw [211] (fun i wr => ∃ j : Nat, j ≤ SS.length ∧ i = .int .i64 j ∧ Hid (Below w2.heap.size w2 wr) ∧ Hid (∀ i (hi : i < SS.length), i < j → SS[i].level ≤ 24)) (fun i _ => SS.length - (intOf i).toNat)
    case atStart => exact ⟨0, Nat.zero_le _, rfl, Lib.hid (Below.refl _ _), Lib.hid fun i hi h => by omega⟩
    case round =>
      obtain ⟨j, hj, rfl, hB, hso⟩ := hrel
      have hqx := Lib.hid (show Bel wo wr from Bel.step hq2.out hB.out)
      have hst2 := Lib.hid (hst.out.step hqx.out)
      have hsw := hB.out.size
      have hwl2 : w.heap.size + 1 < wr.heap.size := by have := hqx.out.size; omega
      have hwl3 : w.heap.size < wr.heap.size := by omega
      by_cases hlt2 : j < SS.length
      · obtain ⟨g2, hpv, hbase, hgl2⟩ := hpg.out (by omega)
        have hc := hpc.out g2 hpv j hlt2
        subst hpv
        have hcl : ∀ q, q < 11 → wr.cell? ⟨g2, j * 11 + q, none⟩ = (scells SS[j])[q]? := fun q hq => by
          rw [← hc q hq]
          exact hB.out.cell (p := ⟨g2, j * 11 + q, none⟩) hgl2
        have hy : Hid (24 < SS[j].level → 24 < deepOf (allT (closedT (opOf o1)))) := Lib.hid fun h => by
          rcases Nat.lt_or_ge 24 (deepOf (allT (closedT (opOf o1)))) with h1 | h1
          · exact h1
          · have := (hD.out.1 h1) _ (List.getElem_mem hlt2); omega
        have hso2 : SS[j].level ≤ 24 → Hid (∀ i (hi : i < SS.length), i < j + 1 → SS[i].level ≤ 24) := fun h => Lib.hid fun i hi h2 => by
          by_cases e : i = j
          · subst e; exact h
          · exact hso.out i hi (by omega)
        clear hc hso
        generalize SS[j] = sx at *
        obtain ⟨sk, ⟨su0, su1, su2, su3⟩, smn, smx, stx, slv, skids⟩ := sx
        simp only [scells] at hcl
        obtain ⟨c0, c1, c2, c3, c4, c5, c6, c7, c8, c9, c10⟩ := eleven_of hcl
        clear hcl
        simp only at hy hso2
        by_cases h24 : 24 < slv
        · have hA := Lib.hid (hy.out h24)
          have d1 : decide ((slv : Int) > 24) = true := by simp; omega
          clear hy hso2
          have hk2 := cells_of hst2.out.b5
          obtain ⟨x0, -⟩ := hk2 0 _ rfl; obtain ⟨x1, -⟩ := hk2 1 _ rfl; obtain ⟨x2, -⟩ := hk2 2 _ rfl; obtain ⟨x3, -⟩ := hk2 3 _ rfl; obtain ⟨x4, -⟩ := hk2 4 _ rfl; obtain ⟨x5, -⟩ := hk2 5 _ rfl; obtain ⟨x6, -⟩ := hk2 6 _ rfl; obtain ⟨x7, -⟩ := hk2 7 _ rfl; obtain ⟨x8, -⟩ := hk2 8 _ rfl
          clear hk2
          have hk2 := cells_of hst2.out.b2
          obtain ⟨y0, f0⟩ := hk2 0 _ rfl; obtain ⟨y1, f1⟩ := hk2 1 _ rfl; obtain ⟨y2, f2⟩ := hk2 2 _ rfl; obtain ⟨y3, f3⟩ := hk2 3 _ rfl; obtain ⟨y4, f4⟩ := hk2 4 _ rfl; obtain ⟨y5, f5⟩ := hk2 5 _ rfl; obtain ⟨y6, f6⟩ := hk2 6 _ rfl; obtain ⟨y7, f7⟩ := hk2 7 _ rfl; obtain ⟨y8, f8⟩ := hk2 8 _ rfl
          clear hk2

          go_wp2
          obtain ⟨q1, q2, q3, q4⟩ := set9 (b := w.heap.size) (d0 := .int .i64 0) (d1 := .int .u64 0) (d2 := .int .u64 0) (d3 := .int .u64 0) (d4 := .int .u64 0) (d5 := .slice none 0 0) (d6 := .int .i64 0) (d7 := .int .i64 0) (d8 := .string ⟨#[]⟩) hst2.out.b2 _ rfl
          generalize hW : World.setCell _ (⟨w.heap.size, 8, none⟩ : Addr) _ = W9 at *
          clear hW
          have q5 := kept_alloc q1 (.cells #[.int .i64 sk, .int .u64 su0, .int .u64 su1, .int .u64 su2, .int .u64 su3, .slice none 0 0, .int .i64 smn, .int .i64 smx, .string stx, .int .i64 slv, .int .i64 skids] 69)
          have hk9 := cells_of q5
          obtain ⟨z0, -⟩ := hk9 0 _ rfl
          obtain ⟨z1, -⟩ := hk9 1 _ rfl
          obtain ⟨z2, -⟩ := hk9 2 _ rfl
          obtain ⟨z3, -⟩ := hk9 3 _ rfl
          obtain ⟨z4, -⟩ := hk9 4 _ rfl
          obtain ⟨z5, -⟩ := hk9 5 _ rfl
          obtain ⟨z6, -⟩ := hk9 6 _ rfl
          obtain ⟨z7, -⟩ := hk9 7 _ rfl
          obtain ⟨z8, -⟩ := hk9 8 _ rfl
          clear hk9
          refine bodyPost_ret (v := .tuple #[.agg #[.int .i64 0, .int .u64 0, .int .u64 0, .int .u64 0, .int .u64 0, .slice none 0 0, .int .i64 0, .int .i64 0, .string ⟨#[]⟩], .int .i64 0, .int .i64 7]) (by simp [results, Tryd.results8, go_sem, z0, z1, z2, z3, z4, z5, z6, z7, z8]) rfl ?_
          rw [hG.out, ho.out]
          exact ⟨(hst2.out.bel.trans (q4 _ (Nat.le_refl _))).alloc (by rw [q2]; omega) _, .inl ⟨hA.out, rfl⟩⟩

        · have d1 : decide ((slv : Int) > 24) = false := by simp; omega
          have hso3 := hso2 (by omega)
          have hb3 := Lib.hid (hB.out.alloc hsw (.cells #[.int .i64 sk, .int .u64 su0, .int .u64 su1, .int .u64 su2, .int .u64 su3, .slice none 0 0, .int .i64 smn, .int .i64 smx, .string stx, .int .i64 slv, .int .i64 skids] 69))
          clear hy hso2
          go_wp2
          go_roundw
          case rel => exact ⟨j + 1, by omega, by go_num, hb3, hso3⟩
          case measure => simp [intOf]; omega
      · have hA := Lib.hid (hD.out.2 fun x hx => by
          obtain ⟨i, hi, rfl⟩ := List.getElem_of_mem hx
          exact hso.out i hi (by omega))
        clear hso
        by_cases h6 : 600 < SS.length
        · have d1 : decide ((600 : Int) < (SS.length : Int)) = true := by rw [decide_eq_true_eq]; omega
          have hk2 := cells_of hst2.out.b5
          obtain ⟨x0, -⟩ := hk2 0 _ rfl; obtain ⟨x1, -⟩ := hk2 1 _ rfl; obtain ⟨x2, -⟩ := hk2 2 _ rfl; obtain ⟨x3, -⟩ := hk2 3 _ rfl; obtain ⟨x4, -⟩ := hk2 4 _ rfl; obtain ⟨x5, -⟩ := hk2 5 _ rfl; obtain ⟨x6, -⟩ := hk2 6 _ rfl; obtain ⟨x7, -⟩ := hk2 7 _ rfl; obtain ⟨x8, -⟩ := hk2 8 _ rfl
          clear hk2
          have hk2 := cells_of hst2.out.b2
          obtain ⟨y0, f0⟩ := hk2 0 _ rfl; obtain ⟨y1, f1⟩ := hk2 1 _ rfl; obtain ⟨y2, f2⟩ := hk2 2 _ rfl; obtain ⟨y3, f3⟩ := hk2 3 _ rfl; obtain ⟨y4, f4⟩ := hk2 4 _ rfl; obtain ⟨y5, f5⟩ := hk2 5 _ rfl; obtain ⟨y6, f6⟩ := hk2 6 _ rfl; obtain ⟨y7, f7⟩ := hk2 7 _ rfl; obtain ⟨y8, f8⟩ := hk2 8 _ rfl
          clear hk2

          go_wp2
          obtain ⟨q1, q2, q3, q4⟩ := set9 (b := w.heap.size) (d0 := .int .i64 0) (d1 := .int .u64 0) (d2 := .int .u64 0) (d3 := .int .u64 0) (d4 := .int .u64 0) (d5 := .slice none 0 0) (d6 := .int .i64 0) (d7 := .int .i64 0) (d8 := .string ⟨#[]⟩) hst2.out.b2 _ rfl
          generalize hW : World.setCell _ (⟨w.heap.size, 8, none⟩ : Addr) _ = W9 at *
          clear hW
          have q5 := q1
          have hk9 := cells_of q5
          obtain ⟨z0, -⟩ := hk9 0 _ rfl
          obtain ⟨z1, -⟩ := hk9 1 _ rfl
          obtain ⟨z2, -⟩ := hk9 2 _ rfl
          obtain ⟨z3, -⟩ := hk9 3 _ rfl
          obtain ⟨z4, -⟩ := hk9 4 _ rfl
          obtain ⟨z5, -⟩ := hk9 5 _ rfl
          obtain ⟨z6, -⟩ := hk9 6 _ rfl
          obtain ⟨z7, -⟩ := hk9 7 _ rfl
          obtain ⟨z8, -⟩ := hk9 8 _ rfl
          clear hk9
          refine bodyPost_ret (v := .tuple #[.agg #[.int .i64 0, .int .u64 0, .int .u64 0, .int .u64 0, .int .u64 0, .slice none 0 0, .int .i64 0, .int .i64 0, .string ⟨#[]⟩], .int .i64 0, .int .i64 9]) (by simp [results, Tryd.results8, go_sem, z0, z1, z2, z3, z4, z5, z6, z7, z8]) rfl ?_
          rw [hG.out, ho.out]
          exact ⟨hst2.out.bel.trans (q4 _ (Nat.le_refl _)), .inr (.inl ⟨hA.out, by rw [hCn.out]; omega, rfl⟩)⟩

        · have d1 : decide ((600 : Int) < (SS.length : Int)) = false := by simp only [decide_eq_false_iff_not]; omega
          have hb25 := Lib.hid (kept_row hbx2.out hB.out)
          have hk2 := cells_of hb25.out
          obtain ⟨x0, -⟩ := hk2 0 _ rfl; obtain ⟨x1, -⟩ := hk2 1 _ rfl; obtain ⟨x2, -⟩ := hk2 2 _ rfl; obtain ⟨x3, -⟩ := hk2 3 _ rfl; obtain ⟨x4, -⟩ := hk2 4 _ rfl; obtain ⟨x5, -⟩ := hk2 5 _ rfl; obtain ⟨x6, -⟩ := hk2 6 _ rfl; obtain ⟨x7, -⟩ := hk2 7 _ rfl; obtain ⟨x8, -⟩ := hk2 8 _ rfl
          clear hk2
          have hk2 := cells_of hst2.out.b2
          obtain ⟨y0, f0⟩ := hk2 0 _ rfl; obtain ⟨y1, f1⟩ := hk2 1 _ rfl; obtain ⟨y2, f2⟩ := hk2 2 _ rfl; obtain ⟨y3, f3⟩ := hk2 3 _ rfl; obtain ⟨y4, f4⟩ := hk2 4 _ rfl; obtain ⟨y5, f5⟩ := hk2 5 _ rfl; obtain ⟨y6, f6⟩ := hk2 6 _ rfl; obtain ⟨y7, f7⟩ := hk2 7 _ rfl; obtain ⟨y8, f8⟩ := hk2 8 _ rfl
          clear hk2

          go_wp2
          obtain ⟨q1, q2, q3, q4⟩ := set9 (b := w.heap.size) (d0 := .int .i64 km) (d1 := .int .u64 u0m) (d2 := .int .u64 u1m) (d3 := .int .u64 u2m) (d4 := .int .u64 u3m) (d5 := .slice pm ksm.length capm) (d6 := .int .i64 mnm) (d7 := .int .i64 mxm) (d8 := .string txm) hst2.out.b2 _ rfl
          generalize hW : World.setCell _ (⟨w.heap.size, 8, none⟩ : Addr) _ = W9 at *
          clear hW
          have hk9 := cells_of q1
          obtain ⟨z0, -⟩ := hk9 0 _ rfl
          obtain ⟨z1, -⟩ := hk9 1 _ rfl
          obtain ⟨z2, -⟩ := hk9 2 _ rfl
          obtain ⟨z3, -⟩ := hk9 3 _ rfl
          obtain ⟨z4, -⟩ := hk9 4 _ rfl
          obtain ⟨z5, -⟩ := hk9 5 _ rfl
          obtain ⟨z6, -⟩ := hk9 6 _ rfl
          obtain ⟨z7, -⟩ := hk9 7 _ rfl
          obtain ⟨z8, -⟩ := hk9 8 _ rfl
          clear hk9
          refine bodyPost_ret (v := .tuple #[.agg #[.int .i64 km, .int .u64 u0m, .int .u64 u1m, .int .u64 u2m, .int .u64 u3m, .slice pm ksm.length capm, .int .i64 mnm, .int .i64 mxm, .string txm], .int .i64 s.size, .int .i64 0]) (by simp [results, Tryd.results8, go_sem, z0, z1, z2, z3, z4, z5, z6, z7, z8]) rfl ?_

          rw [hG.out, ho.out]
          refine ⟨hst2.out.bel.trans (q4 _ (Nat.le_refl _)), .inr (.inr ⟨hA.out, by rw [hCn.out]; omega, (T.mk km u0m u1m u2m u3m pm capm mnm mxm txm ksm), hs1.out, ?_, rfl⟩)⟩
          have hx2 : Bel (w1.alloc (.cells #[.int .i64 km, .int .u64 u0m, .int .u64 u1m, .int .u64 u2m, .int .u64 u3m, .slice pm ksm.length capm, .int .i64 mnm, .int .i64 mxm, .string txm] 35)) wr := Bel.step hq12.out hB.out
          refine (hm1.out.keep fun b hb => ?_).toIn (B := W9.heap.size) fun b hb => ?_
          · have hbl : w.heap.size + 1 < b ∧ b < w1.heap.size := by
              rcases hb with hb | hb
              · exact ⟨hb.1, Nat.lt_of_lt_of_le hb.2.1 hwz⟩
              · exact ⟨by omega, hb.2⟩
            exact (q3 b (by omega)).trans ((hx2.block b (by rw [World.size_alloc]; omega)).trans (Below.heap_alloc _ _ _ hbl.2))
          · have hbl : b < w1.heap.size := by
              rcases hb with hb | hb
              · exact Nat.lt_of_lt_of_le hb.2.1 hwz
              · exact hb.2
            rw [q2]; omega
  · have hol : 1 < os.length := by have := congrArg List.length hst.rel; simp at this; omega
    have g1 : decide ((1 : Int) < (os.length : Int)) = true := by rw [decide_eq_true_eq]; omega
    have hk2 := cells_of hst.b5
    obtain ⟨x0, -⟩ := hk2 0 _ rfl; obtain ⟨x1, -⟩ := hk2 1 _ rfl; obtain ⟨x2, -⟩ := hk2 2 _ rfl; obtain ⟨x3, -⟩ := hk2 3 _ rfl; obtain ⟨x4, -⟩ := hk2 4 _ rfl; obtain ⟨x5, -⟩ := hk2 5 _ rfl; obtain ⟨x6, -⟩ := hk2 6 _ rfl; obtain ⟨x7, -⟩ := hk2 7 _ rfl; obtain ⟨x8, -⟩ := hk2 8 _ rfl
    clear hk2
    have hk2 := cells_of hst.b2
    obtain ⟨y0, f0⟩ := hk2 0 _ rfl; obtain ⟨y1, f1⟩ := hk2 1 _ rfl; obtain ⟨y2, f2⟩ := hk2 2 _ rfl; obtain ⟨y3, f3⟩ := hk2 3 _ rfl; obtain ⟨y4, f4⟩ := hk2 4 _ rfl; obtain ⟨y5, f5⟩ := hk2 5 _ rfl; obtain ⟨y6, f6⟩ := hk2 6 _ rfl; obtain ⟨y7, f7⟩ := hk2 7 _ rfl; obtain ⟨y8, f8⟩ := hk2 8 _ rfl
    clear hk2

    have hwl : w.heap.size + 1 < wr.heap.size := by omega
    replace hst := Lib.hid hst
    replace hr := Lib.hid hr
    replace hn := Lib.hid hn
    rw [hn.out] at ho
    subst ho
    go_wp2
    obtain ⟨q1, q2, q3, q4⟩ := set9 (b := w.heap.size) (d0 := .int .i64 0) (d1 := .int .u64 0) (d2 := .int .u64 0) (d3 := .int .u64 0) (d4 := .int .u64 0) (d5 := .slice none 0 0) (d6 := .int .i64 0) (d7 := .int .i64 0) (d8 := .string ⟨#[]⟩) hst.out.b2 _ rfl
    generalize hW : World.setCell _ (⟨w.heap.size, 8, none⟩ : Addr) _ = W9 at *
    clear hW
    have q5 := q1
    have hk9 := cells_of q5
    obtain ⟨z0, -⟩ := hk9 0 _ rfl
    obtain ⟨z1, -⟩ := hk9 1 _ rfl
    obtain ⟨z2, -⟩ := hk9 2 _ rfl
    obtain ⟨z3, -⟩ := hk9 3 _ rfl
    obtain ⟨z4, -⟩ := hk9 4 _ rfl
    obtain ⟨z5, -⟩ := hk9 5 _ rfl
    obtain ⟨z6, -⟩ := hk9 6 _ rfl
    obtain ⟨z7, -⟩ := hk9 7 _ rfl
    obtain ⟨z8, -⟩ := hk9 8 _ rfl
    clear hk9
    refine bodyPost_ret (v := .tuple #[.agg #[.int .i64 0, .int .u64 0, .int .u64 0, .int .u64 0, .int .u64 0, .slice none 0 0, .int .i64 0, .int .i64 0, .string ⟨#[]⟩], .int .i64 (s.size : Int), .int .i64 2]) (by simp [results, Tryd.results8, go_sem, z0, z1, z2, z3, z4, z5, z6, z7, z8]) rfl ?_
    rw [hG.out]
    exact ⟨hst.out.bel.trans (q4 _ (Nat.le_refl _)), rfl⟩

end Go.Proofs.YtjlmeegaiagfpaaDoor

namespace Go.Proofs.YtjlmeegaiagfpaaDoor
open Go.RowKit
open Go.Tree7
open S7
open S5 (nl nl_length nl_small at_nl nl_at Gives idx idx_at ix ix_no ix_yes)
set_option maxRecDepth 100000 in
set_option maxHeartbeats 60000000 in
theorem rp_mark {s : ByteArray} {out : Out} (hrun : Run (nl s) [([], [])] false 0 out) (hm : s.size ≤ 700) (w : World) : (rp_cuts hrun hm w).c_mark := by
  intro G hG hrun _ _ wr u3 u4 u9 u10 u11 u12 u13 u14 u15 u16 u17 u18 u19 u20 u21 u22 u23 u24 u32 u33 u34 u35 u36 u37 u38 u39 u40 u41 u42 u43 u44 u45 u46 u47 u48 u49 u50 u51 u52 u53 u54 u55 u56 u57 u58 u59 u60 u61 u62 u63 u64 u65 u66 u67 u68 u69 u70 u71 u72 u73 u74 u75 u76 u77 u78 u79 u80 u81 u82 u83 u84 u85 u86 u87 u88 u89 u90 u91 u92 u93 u94 u95 u96 u97 u98 u99 u100 u101 u102 u103 u104 u105 u106 u107 u108 u109 u110 u111 u112 u113 u114 u115 u116 u117 u118 u119 u120 u121 u122 u123 u124 u125 u126 u127 u128 u129 u130 u131 u132 u133 u134 u135 u136 u137 u138 u139 u140 u141 u142 u143 u144 u145 u146 u147 u148 u149 u150 u151 u152 u153 u154 u155 u156 u157 u158 u159 u160 u161 u162 u163 u164 u165 u166 u167 u168 u169 u170 u171 u172 u173 u174 u175 u176 u177 u178 u179 u180 u181 u182 u183 u184 u185 u186 u187 u188 u189 u190 u191 u192 u193 u194 u195 u196 g cap fr k hk hg2 hgl hcm hcap hlt os' hoc c h0 hlt9 hat f0 f1 hfew hkb bs ps n1 n2 bp bc c0 hbc hbl pp pc c1 hrel hpc hpl hwl hwl0 hst hr hn e1 e2 hlq hmk
  obtain ⟨rfl, hmk⟩ := hmk
  have hrm := run_mark hr.out hmk
  replace h0 := Lib.hid h0
  rcases hrm with ⟨bs2, ps2, x, rest, a, b, n, hp, hMk, hnx⟩ | ⟨n, e, x, y, hMk, he, ho⟩
  · have hp2 : bs.map T.strip = bs2 ∧ ps.map T.strip = ps2 ++ [x] ∧ (os'.map opOf).reverse = rest := by
      have h1 := (List.cons.inj hp).1
      have h2 := (List.cons.inj hp).2
      have h3 := Prod.mk.inj (show (bs.map T.strip, ps.map T.strip) = (bs2, ps2 ++ [x]) from h1)
      exact ⟨h3.1, h3.2, h2⟩
    obtain ⟨rfl, hp3, rfl⟩ := hp2
    obtain ⟨qs, z, rfl⟩ : ∃ qs z, ps = qs ++ [z] := snoc_of fun e => by rw [e] at hp3; simp at hp3
    rw [List.map_append] at hp3
    have hp4 := List.append_inj' hp3 rfl
    obtain ⟨rfl, hp5⟩ := hp4
    obtain rfl : z.strip = x := by simpa using hp5
    obtain ⟨m1, m2, m3, m4, m5⟩ := mk_ok hMk
    rw [hn.out] at m5
    have hlz : (qs ++ [z]).length = qs.length + 1 := by simp
    rw [hlz] at hpl n2 c1 e2
    obtain ⟨kz, u0z, u1z, u2z, u3z, pz, capz, mnz, mxz, txz, ksz⟩ := z
    replace hnx := Lib.hid hnx
    clear hp hp3 hp5 hlz hr
    go_upto_if 51 with (fail)
    go_cut [8, 12, 13, 14] (fun v8 v12 v13 v14 wx => v8 = .int .i64 ((n : Int) - 1) ∧ v12 = .int .i64 a ∧ v13 = .int .i64 b ∧ v14 = .bool true ∧ wx = wr.alloc (.cells #[.slice bp bs.length bc, .slice pp (qs.length + 1) pc] 58))
    case first =>
      cases hMk with
      | star h =>
        have hc : c = 42 := Option.some.inj (h0.out.symm.trans h)
        have g43 : ((c : Int) == 43) = false := by rw [beq_eq_false_iff_ne]; omega
        have g63 : ((c : Int) == 63) = false := by rw [beq_eq_false_iff_ne]; omega
        have g123 : ((c : Int) == 123) = false := by rw [beq_eq_false_iff_ne]; omega
        have g42 : ((c : Int) != 42) = false := by simp [hc]
        replace hc := Lib.hid hc
        go_wp2_with (fail)
        go_meet
        exact ⟨by simp, rfl, rfl, rfl, rfl⟩
      | plus h =>
        have hc : c = 43 := Option.some.inj (h0.out.symm.trans h)
        have g43 : ((c : Int) == 43) = true := by rw [beq_iff_eq]; omega
        replace hc := Lib.hid hc
        go_wp2_with (fail)
        go_meet
        exact ⟨by simp, rfl, rfl, rfl, rfl⟩
      | opt h =>
        have hc : c = 63 := Option.some.inj (h0.out.symm.trans h)
        have g43 : ((c : Int) == 43) = false := by rw [beq_eq_false_iff_ne]; omega
        have g63 : ((c : Int) == 63) = true := by rw [beq_iff_eq]; omega
        replace hc := Lib.hid hc
        go_wp2_with (fail)
        go_meet
        exact ⟨by simp, rfl, rfl, rfl, rfl⟩
      | bounds _ _ _ _ h hd hb =>
        have hc : c = 123 := Option.some.inj (h0.out.symm.trans h)
        have g43 : ((c : Int) == 43) = false := by rw [beq_eq_false_iff_ne]; omega
        have g63 : ((c : Int) == 63) = false := by rw [beq_eq_false_iff_ne]; omega
        have g123 : ((c : Int) == 123) = true := by rw [beq_iff_eq]; omega
        have cD := Lib.hid (fun w => rdig_yes' (i := (k : Int) + 1) (by omega) hd (by omega : s.size ≤ 99990) (by omega) w)
        have cB : ∀ w, Calls Tryd.prog 23 #[.string s, .int .i64 k] w fun e w' => e = .returned (.tuple #[.int .i64 a, .int .i64 b, .int .i64 n, .int .i64 0]) ∧ w = w' := fun w => rbounds_in hb (by omega) w
        replace cB := Lib.hid cB
        replace hc := Lib.hid hc
        clear hb hd h
        go_wp2_with (first | (go_at_call 22; (with_reducible refine (cD.out _).mono ?_); rintro e w' ⟨rfl, rfl⟩) | (go_at_call 23; (with_reducible refine (cB.out _).mono ?_); rintro e w' ⟨rfl, rfl⟩))
        go_meet
        exact ⟨rfl, rfl, rfl, rfl, rfl⟩

    case rest =>
      obtain ⟨rfl, rfl, rfl, rfl, rfl⟩ := hcut
      have hBw := Lib.hid (Bel.new wr (.cells #[.slice bp bs.length bc, .slice pp (qs.length + 1) pc] 58))
      have hbx := Lib.hid (World.alloc_heap_new wr (.cells #[.slice bp bs.length bc, .slice pp (qs.length + 1) pc] 58))
      have hwz : wr.heap.size < (wr.alloc (.cells #[.slice bp bs.length bc, .slice pp (qs.length + 1) pc] 58)).heap.size := by rw [World.size_alloc]; omega
      obtain ⟨wq, hWq⟩ : ∃ wq, (wr.alloc (.cells #[.slice bp bs.length bc, .slice pp (qs.length + 1) pc] 58)) = wq := ⟨_, rfl⟩
      rw [hWq] at hBw hbx hwz ⊢
      clear hWq c0 c1 f0 f1
      obtain ⟨gp, rfl, hgS, hgR⟩ : ∃ gp, pp = some ⟨gp, 0, none⟩ ∧ Sb wr (w.heap.size + 2) g gp ∧ T.InP wr (Sb wr (w.heap.size + 2) g) (rowN (some ⟨gp, 0, none⟩) pc (qs ++ [(T.mk kz u0z u1z u2z u3z pz capz mnz mxz txz ksz)])) := by
        rcases e2.out with ⟨e, -⟩ | ⟨gp, cap', e, h1, h2⟩
        · cases e
        · simp only [Value.slice.injEq] at e
          obtain ⟨rfl, -, rfl⟩ := e
          exact ⟨gp, rfl, h1, h2⟩
      have hcl : ∀ q, q < 9 → wq.cell? ⟨gp, qs.length * 9 + q, none⟩ = (T.cells (T.mk kz u0z u1z u2z u3z pz capz mnz mxz txz ksz))[q]? := fun q hq => by
        have hx := flat9 (qs ++ [(T.mk kz u0z u1z u2z u3z pz capz mnz mxz txz ksz)]) qs.length q (by simp) hq
        have hy : (qs ++ [(T.mk kz u0z u1z u2z u3z pz capz mnz mxz txz ksz)])[qs.length]'(by simp) = (T.mk kz u0z u1z u2z u3z pz capz mnz mxz txz ksz) := by simp
        rw [hy] at hx
        rw [← hx]
        have hlq2 : qs.length * 9 + q < (((qs ++ [(T.mk kz u0z u1z u2z u3z pz capz mnz mxz txz ksz)])).flatMap T.cells).length := by rw [cells_len9, List.length_append]; simp; omega
        obtain ⟨u, hu⟩ : ∃ u, (((qs ++ [(T.mk kz u0z u1z u2z u3z pz capz mnz mxz txz ksz)])).flatMap T.cells)[qs.length * 9 + q]? = some u := ⟨_, List.getElem?_eq_getElem hlq2⟩
        have hv := row_news hgR _ u hu
        rw [add_at] at hv
        rw [hu, ← hv]
        exact World.cell?_of_block (hBw.out.block gp hgS.2.1)
      simp only [T.cells] at hcl
      obtain ⟨a0, a1, a2, a3, a4, a5, a6, a7, a8⟩ := nine_of hcl
      have hgl2 : gp < wq.heap.size := by have := hgS.2.1; omega
      have hwa : (Lit.int .i64 a).wf = true := WalkArith.wf_i64 (by omega)
      have hwb : (Lit.int .i64 b).wf = true := WalkArith.wf_i64 (by omega)
      replace hwa := Lib.hid hwa
      replace hwb := Lib.hid hwb
      clear hcl hgR hgS
      obtain ⟨k0, -⟩ := cells_of hbx.out 0 _ rfl
      obtain ⟨k1, -⟩ := cells_of hbx.out 1 _ rfl
      have hbq := Lib.hid (show Bel wq ((wq.alloc (.cells #[.int .i64 kz, .int .u64 u0z, .int .u64 u1z, .int .u64 u2z, .int .u64 u3z, .slice pz ksz.length capz, .int .i64 mnz, .int .i64 mxz, .string txz] 35)).alloc (.cells #[.int .i64 4, .int .u64 0, .int .u64 0, .int .u64 0, .int .u64 0, .slice (some ⟨wq.heap.size, 0, none⟩) 1 1, .int .i64 a, .int .i64 b, .string ⟨#[]⟩] 35)).drew from Bel.drew (Bel.alloc (Bel.new wq _) _))
      have hbd := Lib.hid (show Bel wr ((wq.alloc (.cells #[.int .i64 kz, .int .u64 u0z, .int .u64 u1z, .int .u64 u2z, .int .u64 u3z, .slice pz ksz.length capz, .int .i64 mnz, .int .i64 mxz, .string txz] 35)).alloc (.cells #[.int .i64 4, .int .u64 0, .int .u64 0, .int .u64 0, .int .u64 0, .slice (some ⟨wq.heap.size, 0, none⟩) 1 1, .int .i64 a, .int .i64 b, .string ⟨#[]⟩] 35)).drew from Bel.step hBw.out hbq.out)
      have hbxd := Lib.hid (show ((wq.alloc (.cells #[.int .i64 kz, .int .u64 u0z, .int .u64 u1z, .int .u64 u2z, .int .u64 u3z, .slice pz ksz.length capz, .int .i64 mnz, .int .i64 mxz, .string txz] 35)).alloc (.cells #[.int .i64 4, .int .u64 0, .int .u64 0, .int .u64 0, .int .u64 0, .slice (some ⟨wq.heap.size, 0, none⟩) 1 1, .int .i64 a, .int .i64 b, .string ⟨#[]⟩] 35)).drew.heap[wr.heap.size]? = some (.cells #[.slice bp bs.length bc, .slice (some ⟨gp, 0, none⟩) (qs.length + 1) pc] 58 (0, 0)) from kept_alloc (kept_alloc hbx.out _) _)
      have hxd := Lib.hid (show ((wq.alloc (.cells #[.int .i64 kz, .int .u64 u0z, .int .u64 u1z, .int .u64 u2z, .int .u64 u3z, .slice pz ksz.length capz, .int .i64 mnz, .int .i64 mxz, .string txz] 35)).alloc (.cells #[.int .i64 4, .int .u64 0, .int .u64 0, .int .u64 0, .int .u64 0, .slice (some ⟨wq.heap.size, 0, none⟩) 1 1, .int .i64 a, .int .i64 b, .string ⟨#[]⟩] 35)).drew.heap[wq.heap.size + 1]? = some (.cells #[.int .i64 4, .int .u64 0, .int .u64 0, .int .u64 0, .int .u64 0, .slice (some ⟨wq.heap.size, 0, none⟩) 1 1, .int .i64 a, .int .i64 b, .string ⟨#[]⟩] 35 (0, 0)) from at_new2 wq _ _)
      have hzd := Lib.hid (show ((wq.alloc (.cells #[.int .i64 kz, .int .u64 u0z, .int .u64 u1z, .int .u64 u2z, .int .u64 u3z, .slice pz ksz.length capz, .int .i64 mnz, .int .i64 mxz, .string txz] 35)).alloc (.cells #[.int .i64 4, .int .u64 0, .int .u64 0, .int .u64 0, .int .u64 0, .slice (some ⟨wq.heap.size, 0, none⟩) 1 1, .int .i64 a, .int .i64 b, .string ⟨#[]⟩] 35)).drew.heap[wq.heap.size]? = some (.cells (T.cells (T.mk kz u0z u1z u2z u3z pz capz mnz mxz txz ksz)).toArray 35 (0, 0)) from kept_alloc (World.alloc_heap_new wq _) _)
      have hsz : wq.heap.size + 1 < ((wq.alloc (.cells #[.int .i64 kz, .int .u64 u0z, .int .u64 u1z, .int .u64 u2z, .int .u64 u3z, .slice pz ksz.length capz, .int .i64 mnz, .int .i64 mxz, .string txz] 35)).alloc (.cells #[.int .i64 4, .int .u64 0, .int .u64 0, .int .u64 0, .int .u64 0, .slice (some ⟨wq.heap.size, 0, none⟩) 1 1, .int .i64 a, .int .i64 b, .string ⟨#[]⟩] 35)).drew.heap.size := by show _ < ((wq.alloc (.cells #[.int .i64 kz, .int .u64 u0z, .int .u64 u1z, .int .u64 u2z, .int .u64 u3z, .slice pz ksz.length capz, .int .i64 mnz, .int .i64 mxz, .string txz] 35)).alloc (.cells #[.int .i64 4, .int .u64 0, .int .u64 0, .int .u64 0, .int .u64 0, .slice (some ⟨wq.heap.size, 0, none⟩) 1 1, .int .i64 a, .int .i64 b, .string ⟨#[]⟩] 35)).heap.size; rw [World.size_alloc, World.size_alloc]; omega
      have hsP := Lib.hid (fun (W : World) (hW : Bel ((wq.alloc (.cells #[.int .i64 kz, .int .u64 u0z, .int .u64 u1z, .int .u64 u2z, .int .u64 u3z, .slice pz ksz.length capz, .int .i64 mnz, .int .i64 mxz, .string txz] 35)).alloc (.cells #[.int .i64 4, .int .u64 0, .int .u64 0, .int .u64 0, .int .u64 0, .slice (some ⟨wq.heap.size, 0, none⟩) 1 1, .int .i64 a, .int .i64 b, .string ⟨#[]⟩] 35)).drew W) => (ns_src e2.out (fun b hb => hb.2.1) W (Bel.step hbd.out hW)).take (n := qs.length) rfl (fun e => by cases e))
      go_upto_region 25 with (fail)
      clear k0 k1 a0 a1 a2 a3 a4 a5 a6 a7 a8
      refine Go.Last.start (S := fun W => W.heap[wr.heap.size]? = some (.cells #[.slice bp bs.length bc, .slice (some ⟨gp, 0, none⟩) (qs.length + 1) pc] 58 (0, 0)) ∧ W.heap[wq.heap.size + 1]? = some (.cells #[.int .i64 4, .int .u64 0, .int .u64 0, .int .u64 0, .int .u64 0, .slice (some ⟨wq.heap.size, 0, none⟩) 1 1, .int .i64 a, .int .i64 b, .string ⟨#[]⟩] 35 (0, 0))) (z := 10) (by decide +kernel) ⟨hbxd.out, hxd.out⟩ (fun hHeld => ?_)
      generalize ((wq.alloc (.cells #[.int .i64 kz, .int .u64 u0z, .int .u64 u1z, .int .u64 u2z, .int .u64 u3z, .slice pz ksz.length capz, .int .i64 mnz, .int .i64 mxz, .string txz] 35)).alloc (.cells #[.int .i64 4, .int .u64 0, .int .u64 0, .int .u64 0, .int .u64 0, .slice (some ⟨wq.heap.size, 0, none⟩) 1 1, .int .i64 a, .int .i64 b, .string ⟨#[]⟩] 35)).drew = wd at *
      refine Go.Last.take (i := 1) (v := ?v1u28) rfl (by decide +kernel) (by decide +kernel) (by decide +kernel) (fun _ _ _ h => h) (by decide +kernel) (Or.inl ⟨by rfl, ?h1u28⟩) hHeld ?r1u28
      case h1u28 => (intro wq9 hSw; go_simp <;> with_reducible rfl)
      try simp only [Act.put, List.getElem_toArray, List.getElem_cons_succ, List.getElem_cons_zero, List.setIfInBounds_toArray, List.set_cons_zero, List.set_cons_succ]
      refine Go.Last.take (i := 2) (v := ?v2u29) rfl (by decide +kernel) (by decide +kernel) (by decide +kernel) (fun _ _ _ h => h) (by decide +kernel) (Or.inl ⟨by rfl, ?h2u29⟩) hHeld ?r2u29
      case h2u29 => (intro wq9 hSw; have y0 := (cells_of hSw.1 1 _ rfl).1; go_simp <;> with_reducible rfl)
      try simp only [Act.put, List.getElem_toArray, List.getElem_cons_succ, List.getElem_cons_zero, List.setIfInBounds_toArray, List.set_cons_zero, List.set_cons_succ]
      refine Go.Last.take (i := 3) (v := ?v3u30) rfl (by decide +kernel) (by decide +kernel) (by decide +kernel) (fun _ _ _ h => h) (by decide +kernel) (Or.inl ⟨by rfl, ?h3u30⟩) hHeld ?r3u30
      case h3u30 => (intro wq9 hSw; go_simp <;> with_reducible rfl)
      try simp only [Act.put, List.getElem_toArray, List.getElem_cons_succ, List.getElem_cons_zero, List.setIfInBounds_toArray, List.set_cons_zero, List.set_cons_succ]
      refine Go.Last.take (i := 4) (v := ?v4u31) rfl (by decide +kernel) (by decide +kernel) (by decide +kernel) (fun _ _ _ h => h) (by decide +kernel) (Or.inl ⟨by rfl, ?h4u31⟩) hHeld ?r4u31
      case h4u31 => (intro wq9 hSw; have d1 : (0 : Int) ≤ (qs.length : Int) := (by omega); have d2 : (qs.length : Int) ≤ (pc : Int) := (by omega); have d3 : (pc : Int) ≤ 9223372036854775807 := (by omega); go_simp <;> with_reducible rfl)
      try simp only [Act.put, List.getElem_toArray, List.getElem_cons_succ, List.getElem_cons_zero, List.setIfInBounds_toArray, List.set_cons_zero, List.set_cons_succ]
      refine Go.Last.take (i := 6) (v := ?v6u32) rfl (by decide +kernel) (by decide +kernel) (by decide +kernel) (fun _ _ _ h => h) (by decide +kernel) (Or.inl ⟨by rfl, ?h6u32⟩) hHeld ?r6u32
      case h6u32 => (intro wq9 hSw; have hk9 := cells_of hSw.2; have y0 := (hk9 0 _ rfl).1; have y1 := (hk9 1 _ rfl).1; have y2 := (hk9 2 _ rfl).1; have y3 := (hk9 3 _ rfl).1; have y4 := (hk9 4 _ rfl).1; have y5 := (hk9 5 _ rfl).1; have y6 := (hk9 6 _ rfl).1; have y7 := (hk9 7 _ rfl).1; have y8 := (hk9 8 _ rfl).1; clear hk9; go_simp <;> with_reducible rfl)
      try simp only [Act.put, List.getElem_toArray, List.getElem_cons_succ, List.getElem_cons_zero, List.setIfInBounds_toArray, List.set_cons_zero, List.set_cons_succ]
      refine Go.Last.ready (rs := [0, 7]) (by decide +kernel) (by simp) ?_
      refine (Go.Last.Next.cons (o := _) rfl (fun K hK => ?_) (Go.Last.Next.cons (o := _) rfl (fun K hK => ?_) Go.Last.Next.nil))
      · go_simp
        try dsimp only
        refine hK.out _ _ (.of (⟨kept_alloc hHeld.1 _, kept_alloc hHeld.2 _⟩)) (fun hHeld2 => ?_)
        clear hK K hHeld
        have hHeld := hHeld2.resolve_left (by decide)
        clear hHeld2
        try simp only [Act.put, List.getElem_toArray, List.getElem_cons_succ, List.getElem_cons_zero, List.setIfInBounds_toArray, List.set_cons_zero, List.set_cons_succ]
        refine Go.Last.ready (rs := [5, 7]) (by decide +kernel) (by simp) ?_
        refine (Go.Last.Next.cons (o := _) rfl (fun K hK => ?_) (Go.Last.Next.cons (o := _) rfl (fun K hK => ?_) Go.Last.Next.nil))
        · (refine step_nodes rfl _ _ rfl wd.heap.size _ 0 [] rfl (by first | exact own_mt (World.alloc_heap_new wd _) (Nat.le_refl _) | exact own_mt (kept_alloc (World.alloc_heap_new wd _) _) (Nat.le_refl _) | exact own_mt (at_new2 wd _ _) (by omega)) (some ⟨gp, 0, none⟩) qs.length pc qs rfl (hsP.out _ (by first | exact Bel.new wd _ | exact Bel.alloc (Bel.new wd _) _)) (by omega) (by first | omega | (simp <;> omega)) ?_; intro v9 w9 hown9 hgrow9; rw [Nat.zero_add, List.nil_append] at hown9; obtain ⟨p9, c9, rfl, -⟩ := row_form hown9; have hb9 : Bel wd w9 := Below.grown (by first | exact Bel.new wd _ | exact Bel.alloc (Bel.new wd _) _) hgrow9 (by first | omega | (simp <;> omega)) (fun b e => by have h9 := Option.some.inj e; first | omega | (simp at h9 <;> omega)); have hz9 := hb9.size; have hzg := hgrow9.size; try simp only [World.size_alloc] at hzg)
          try dsimp only
          refine hK.out _ _ (.of (⟨(hgrow9.block _ (by first | omega | (simp <;> omega)) (fun e => by have h9 := Option.some.inj e; first | omega | (simp at h9 <;> omega))).trans hHeld.1, (hgrow9.block _ (by first | omega | (simp <;> omega)) (fun e => by have h9 := Option.some.inj e; first | omega | (simp at h9 <;> omega))).trans hHeld.2⟩)) (fun hHeld2 => ?_)
          clear hK K hHeld
          have hHeld := hHeld2.resolve_left (by decide)
          clear hHeld2
          try simp only [Act.put, List.getElem_toArray, List.getElem_cons_succ, List.getElem_cons_zero, List.setIfInBounds_toArray, List.set_cons_zero, List.set_cons_succ]
          refine Go.Last.ready (rs := [7]) (by decide +kernel) (by simp) ?_
          refine Go.Last.Next.cons (o := _) rfl (fun K hK => ?_) Go.Last.Next.nil
          go_simp
          try dsimp only
          refine hK.out _ _ (.of (⟨kept_alloc hHeld.1 _, kept_alloc hHeld.2 _⟩)) (fun hHeld2 => ?_)
          clear hK K hHeld
          have hHeld := hHeld2.resolve_left (by decide)
          clear hHeld2
          try simp only [Act.put, List.getElem_toArray, List.getElem_cons_succ, List.getElem_cons_zero, List.setIfInBounds_toArray, List.set_cons_zero, List.set_cons_succ]
          refine Go.Last.ready (rs := [8]) (by decide +kernel) (by simp) ?_
          refine Go.Last.Next.cons (o := _) rfl (fun K hK => ?_) Go.Last.Next.nil
          (refine step_nodes rfl _ _ rfl wd.heap.size _ qs.length qs rfl (by first | exact hown9 | exact hown9.alloc _) _ 1 1 [(T.mk 4 0 0 0 0 (some ⟨wq.heap.size, 0, none⟩) 1 a b ⟨#[]⟩ [(T.mk kz u0z u1z u2z u3z pz capz mnz mxz txz ksz)])] rfl (by first | exact nsrc_one (World.alloc_heap_new w9 _) | exact nsrc_one ((hgrow9.block _ (by first | omega | (simp <;> omega)) (fun e => by have h9 := Option.some.inj e; first | omega | (simp at h9 <;> omega))).trans (at_new2 wd _ _)) | exact nsrc_one ((hgrow9.block _ (by first | omega | (simp <;> omega)) (fun e => by have h9 := Option.some.inj e; first | omega | (simp at h9 <;> omega))).trans (kept_alloc (World.alloc_heap_new wd _) _))) (by omega) (by first | omega | (simp <;> omega)) ?_; intro v10 w10 hown10 hgrow10; obtain ⟨p10, c10, rfl, -⟩ := row_form hown10; have hb10 : Bel wd w10 := Below.grown (by first | exact hb9 | exact Bel.alloc hb9 _) hgrow10 (by first | omega | (simp <;> omega)) (fun b e => (hown9.lt b e).1); have hz10 := hb10.size; have k10 := (cells_of ((hb10.block wr.heap.size (by omega)).trans hbxd.out) 1 _ rfl))
          try dsimp only
          refine hK.out _ _ (.of (⟨(hgrow10.block _ (by first | omega | (simp <;> omega)) (fun e => by have := (hown9.lt _ e.symm).1; omega)).trans hHeld.1, (hgrow10.block _ (by first | omega | (simp <;> omega)) (fun e => by have := (hown9.lt _ e.symm).1; omega)).trans hHeld.2⟩)) (fun hHeld2 => ?_)
          clear hK K hHeld
          have hHeld := hHeld2.resolve_left (by decide)
          clear hHeld2
          try simp only [Act.put, List.getElem_toArray, List.getElem_cons_succ, List.getElem_cons_zero, List.setIfInBounds_toArray, List.set_cons_zero, List.set_cons_succ]
          refine Go.Last.take (i := 9) (v := ?v9u33) rfl (by decide +kernel) (by decide +kernel) (by decide +kernel) (fun _ _ _ h => h) (by decide +kernel) (Or.inl ⟨by rfl, ?h9u33⟩) hHeld ?r9u33
          case h9u33 => (intro wq9 hSw; go_simp <;> with_reducible rfl)
          try simp only [Act.put, List.getElem_toArray, List.getElem_cons_succ, List.getElem_cons_zero, List.setIfInBounds_toArray, List.set_cons_zero, List.set_cons_succ]
          refine Go.Last.ready (rs := [10]) (by decide +kernel) (by simp) ?_
          refine Go.Last.Next.cons (o := _) rfl (fun K hK => ?_) Go.Last.Next.nil
          go_simp
          try dsimp only
          refine hK.out _ _ .last (fun _ => ?_)
          clear hK K hHeld
          try simp only [Act.put, List.getElem_toArray, List.getElem_cons_succ, List.getElem_cons_zero, List.setIfInBounds_toArray, List.set_cons_zero, List.set_cons_succ]
          refine Go.Last.done (by decide +kernel) ?_ _
          obtain ⟨k10, f10⟩ := k10
          have hbB := (hb10.block wr.heap.size (by omega)).trans hbxd.out
          have hbZ := (hb10.block wq.heap.size (by omega)).trans hzd.out
          obtain ⟨W5, hW5⟩ : ∃ W5, World.setCell w10 (⟨wr.heap.size, 1, none⟩ : Addr) (.slice p10 (qs.length + 1) c10) = W5 := ⟨_, rfl⟩
          rw [hW5]
          have q1 : W5.heap[wr.heap.size]? = some (.cells #[.slice bp bs.length bc, .slice p10 (qs.length + 1) c10] 58 (0, 0)) := by
            rw [← hW5]
            exact box_set hbB 1 _
          have q2 : W5.heap.size = w10.heap.size := by rw [← hW5, size_set]
          have q3 : ∀ b, b ≠ wr.heap.size → W5.heap[b]? = w10.heap[b]? := fun b hb => by rw [← hW5]; exact Below.heap_setCell _ _ _ _ hb
          have q4 : Bel wr W5 := by
            rw [← hW5]
            exact (Bel.step hbd.out (hb10.mono (Nat.le_refl _))).setCell (Nat.le_refl _) _
          clear hW5
          have hst5 := hst.out.step q4
          obtain ⟨j0, -⟩ := cells_of q1 0 _ rfl
          obtain ⟨j1, -⟩ := cells_of q1 1 _ rfl
          obtain ⟨y0, y1, z0, z1⟩ := hst5.pil.cell (i := os'.length) (by simp)
          replace hst5 := Lib.hid hst5
          replace q1 := Lib.hid q1
          replace q2 := Lib.hid q2
          replace q3 := Lib.hid q3
          replace q4 := Lib.hid q4
          replace hbB := Lib.hid hbB
          replace hbZ := Lib.hid hbZ
          replace hown10 := Lib.hid hown10
          clear hgrow10 hgrow9 hown9 k10 f10
          go_wp2
          have hS1 : ∀ b, Sb wr (w.heap.size + 2) g b → Sb W5 (w.heap.size + 2) g b := fun b hS => ⟨hS.1, Nat.lt_of_lt_of_le hS.2.1 q4.out.size, hS.2.2⟩
          have hz5 := q2.out
          have hq : ∀ t ∈ (qs ++ [(T.mk kz u0z u1z u2z u3z pz capz mnz mxz txz ksz)]), T.InP W5 (Sb W5 (w.heap.size + 2) g) t := fun t ht => ((ns_kids e2.out t ht).keep fun b hS => q4.out.block b hS.2.1).imp hS1
          have hkid : ∀ t ∈ qs ++ [(T.mk 4 0 0 0 0 (some ⟨wq.heap.size, 0, none⟩) 1 a b ⟨#[]⟩ [(T.mk kz u0z u1z u2z u3z pz capz mnz mxz txz ksz)])], T.InP W5 (Sb W5 (w.heap.size + 2) g) t := fun t ht => by
            rcases List.mem_append.1 ht with ht | ht
            · exact hq t (List.mem_append_left _ ht)
            · simp only [List.mem_cons, List.not_mem_nil, or_false] at ht
              subst ht
              exact rep_inP hwa hwb ((q3.out _ (by omega)).trans hbZ.out) ⟨by omega, by omega, by omega⟩ (hq _ (by simp))
          have hown5 := own_keep2 hown10.out (w' := W5) fun b hb hbl => q3.out b (by have := (hown10.out.lt b hb).1; omega)
          have hns : Ns W5 (Sb W5 (w.heap.size + 2) g) (.slice p10 (qs.length + 1) c10) (qs ++ [(T.mk 4 0 0 0 0 (some ⟨wq.heap.size, 0, none⟩) 1 a b ⟨#[]⟩ [(T.mk kz u0z u1z u2z u3z pz capz mnz mxz txz ksz)])]) := ns_of_own hown5 (by simp) hkid fun b h1 h2 => ⟨by omega, h2, by omega⟩
          have hPS := hst5.out.set (o' := (⟨.slice bp bs.length bc, .slice p10 (qs.length + 1) c10, bs, qs ++ [(T.mk 4 0 0 0 0 (some ⟨wq.heap.size, 0, none⟩) 1 a b ⟨#[]⟩ [(T.mk kz u0z u1z u2z u3z pz capz mnz mxz txz ksz)])]⟩ : Opn)) rfl (hst5.out.each (⟨.slice bp bs.length bc, .slice (some ⟨gp, 0, none⟩) (qs.length + 1) pc, bs, qs ++ [(T.mk kz u0z u1z u2z u3z pz capz mnz mxz txz ksz)]⟩ : Opn) (by simp)).1 hns (by omega : k ≤ n) ⟨by show bs.length ≤ n; omega, by simp; omega⟩
          go_roundw
          case rel => exact Lib.hid ⟨g, cap, os' ++ [(⟨.slice bp bs.length bc, .slice p10 (qs.length + 1) c10, bs, qs ++ [(T.mk 4 0 0 0 0 (some ⟨wq.heap.size, 0, none⟩) 1 a b ⟨#[]⟩ [(T.mk kz u0z u1z u2z u3z pz capz mnz mxz txz ksz)])]⟩ : Opn)], _, true, n, by rw [List.length_append]; rfl, rfl, by go_num, by omega, hPS, by
            have e : opOf (⟨.slice bp bs.length bc, .slice p10 (qs.length + 1) c10, bs, qs ++ [(T.mk 4 0 0 0 0 (some ⟨wq.heap.size, 0, none⟩) 1 a b ⟨#[]⟩ [(T.mk kz u0z u1z u2z u3z pz capz mnz mxz txz ksz)])]⟩ : Opn) = (bs.map T.strip, qs.map T.strip ++ [tR a b ((T.mk kz u0z u1z u2z u3z pz capz mnz mxz txz ksz)).strip]) := by unfold opOf; simp [rep_strip]
            rw [e]
            exact hnx.out⟩
          case measure => simp [intOf]; omega

        · go_simp
          try dsimp only
          refine hK.out _ _ (.of (⟨kept_alloc hHeld.1 _, kept_alloc hHeld.2 _⟩)) (fun hHeld2 => ?_)
          clear hK K hHeld
          have hHeld := hHeld2.resolve_left (by decide)
          clear hHeld2
          try simp only [Act.put, List.getElem_toArray, List.getElem_cons_succ, List.getElem_cons_zero, List.setIfInBounds_toArray, List.set_cons_zero, List.set_cons_succ]
          refine Go.Last.ready (rs := [5]) (by decide +kernel) (by simp) ?_
          refine Go.Last.Next.cons (o := _) rfl (fun K hK => ?_) Go.Last.Next.nil
          (refine step_nodes rfl _ _ rfl wd.heap.size _ 0 [] rfl (by first | exact own_mt (World.alloc_heap_new wd _) (Nat.le_refl _) | exact own_mt (kept_alloc (World.alloc_heap_new wd _) _) (Nat.le_refl _) | exact own_mt (at_new2 wd _ _) (by omega)) (some ⟨gp, 0, none⟩) qs.length pc qs rfl (hsP.out _ (by first | exact Bel.new wd _ | exact Bel.alloc (Bel.new wd _) _)) (by omega) (by first | omega | (simp <;> omega)) ?_; intro v9 w9 hown9 hgrow9; rw [Nat.zero_add, List.nil_append] at hown9; obtain ⟨p9, c9, rfl, -⟩ := row_form hown9; have hb9 : Bel wd w9 := Below.grown (by first | exact Bel.new wd _ | exact Bel.alloc (Bel.new wd _) _) hgrow9 (by first | omega | (simp <;> omega)) (fun b e => by have h9 := Option.some.inj e; first | omega | (simp at h9 <;> omega)); have hz9 := hb9.size; have hzg := hgrow9.size; try simp only [World.size_alloc] at hzg)
          try dsimp only
          refine hK.out _ _ (.of (⟨(hgrow9.block _ (by first | omega | (simp <;> omega)) (fun e => by have h9 := Option.some.inj e; first | omega | (simp at h9 <;> omega))).trans hHeld.1, (hgrow9.block _ (by first | omega | (simp <;> omega)) (fun e => by have h9 := Option.some.inj e; first | omega | (simp at h9 <;> omega))).trans hHeld.2⟩)) (fun hHeld2 => ?_)
          clear hK K hHeld
          have hHeld := hHeld2.resolve_left (by decide)
          clear hHeld2
          try simp only [Act.put, List.getElem_toArray, List.getElem_cons_succ, List.getElem_cons_zero, List.setIfInBounds_toArray, List.set_cons_zero, List.set_cons_succ]
          refine Go.Last.ready (rs := [8]) (by decide +kernel) (by simp) ?_
          refine Go.Last.Next.cons (o := _) rfl (fun K hK => ?_) Go.Last.Next.nil
          (refine step_nodes rfl _ _ rfl wd.heap.size _ qs.length qs rfl (by first | exact hown9 | exact hown9.alloc _) _ 1 1 [(T.mk 4 0 0 0 0 (some ⟨wq.heap.size, 0, none⟩) 1 a b ⟨#[]⟩ [(T.mk kz u0z u1z u2z u3z pz capz mnz mxz txz ksz)])] rfl (by first | exact nsrc_one (World.alloc_heap_new w9 _) | exact nsrc_one ((hgrow9.block _ (by first | omega | (simp <;> omega)) (fun e => by have h9 := Option.some.inj e; first | omega | (simp at h9 <;> omega))).trans (at_new2 wd _ _)) | exact nsrc_one ((hgrow9.block _ (by first | omega | (simp <;> omega)) (fun e => by have h9 := Option.some.inj e; first | omega | (simp at h9 <;> omega))).trans (kept_alloc (World.alloc_heap_new wd _) _))) (by omega) (by first | omega | (simp <;> omega)) ?_; intro v10 w10 hown10 hgrow10; obtain ⟨p10, c10, rfl, -⟩ := row_form hown10; have hb10 : Bel wd w10 := Below.grown (by first | exact hb9 | exact Bel.alloc hb9 _) hgrow10 (by first | omega | (simp <;> omega)) (fun b e => (hown9.lt b e).1); have hz10 := hb10.size; have k10 := (cells_of ((hb10.block wr.heap.size (by omega)).trans hbxd.out) 1 _ rfl))
          try dsimp only
          refine hK.out _ _ (.of (⟨(hgrow10.block _ (by first | omega | (simp <;> omega)) (fun e => by have := (hown9.lt _ e.symm).1; omega)).trans hHeld.1, (hgrow10.block _ (by first | omega | (simp <;> omega)) (fun e => by have := (hown9.lt _ e.symm).1; omega)).trans hHeld.2⟩)) (fun hHeld2 => ?_)
          clear hK K hHeld
          have hHeld := hHeld2.resolve_left (by decide)
          clear hHeld2
          try simp only [Act.put, List.getElem_toArray, List.getElem_cons_succ, List.getElem_cons_zero, List.setIfInBounds_toArray, List.set_cons_zero, List.set_cons_succ]
          refine Go.Last.take (i := 9) (v := ?v9u34) rfl (by decide +kernel) (by decide +kernel) (by decide +kernel) (fun _ _ _ h => h) (by decide +kernel) (Or.inl ⟨by rfl, ?h9u34⟩) hHeld ?r9u34
          case h9u34 => (intro wq9 hSw; go_simp <;> with_reducible rfl)
          try simp only [Act.put, List.getElem_toArray, List.getElem_cons_succ, List.getElem_cons_zero, List.setIfInBounds_toArray, List.set_cons_zero, List.set_cons_succ]
          refine Go.Last.ready (rs := [10]) (by decide +kernel) (by simp) ?_
          refine Go.Last.Next.cons (o := _) rfl (fun K hK => ?_) Go.Last.Next.nil
          go_simp
          try dsimp only
          refine hK.out _ _ .last (fun _ => ?_)
          clear hK K hHeld
          try simp only [Act.put, List.getElem_toArray, List.getElem_cons_succ, List.getElem_cons_zero, List.setIfInBounds_toArray, List.set_cons_zero, List.set_cons_succ]
          refine Go.Last.done (by decide +kernel) ?_ _
          obtain ⟨k10, f10⟩ := k10
          have hbB := (hb10.block wr.heap.size (by omega)).trans hbxd.out
          have hbZ := (hb10.block wq.heap.size (by omega)).trans hzd.out
          obtain ⟨W5, hW5⟩ : ∃ W5, World.setCell w10 (⟨wr.heap.size, 1, none⟩ : Addr) (.slice p10 (qs.length + 1) c10) = W5 := ⟨_, rfl⟩
          rw [hW5]
          have q1 : W5.heap[wr.heap.size]? = some (.cells #[.slice bp bs.length bc, .slice p10 (qs.length + 1) c10] 58 (0, 0)) := by
            rw [← hW5]
            exact box_set hbB 1 _
          have q2 : W5.heap.size = w10.heap.size := by rw [← hW5, size_set]
          have q3 : ∀ b, b ≠ wr.heap.size → W5.heap[b]? = w10.heap[b]? := fun b hb => by rw [← hW5]; exact Below.heap_setCell _ _ _ _ hb
          have q4 : Bel wr W5 := by
            rw [← hW5]
            exact (Bel.step hbd.out (hb10.mono (Nat.le_refl _))).setCell (Nat.le_refl _) _
          clear hW5
          have hst5 := hst.out.step q4
          obtain ⟨j0, -⟩ := cells_of q1 0 _ rfl
          obtain ⟨j1, -⟩ := cells_of q1 1 _ rfl
          obtain ⟨y0, y1, z0, z1⟩ := hst5.pil.cell (i := os'.length) (by simp)
          replace hst5 := Lib.hid hst5
          replace q1 := Lib.hid q1
          replace q2 := Lib.hid q2
          replace q3 := Lib.hid q3
          replace q4 := Lib.hid q4
          replace hbB := Lib.hid hbB
          replace hbZ := Lib.hid hbZ
          replace hown10 := Lib.hid hown10
          clear hgrow10 hgrow9 hown9 k10 f10
          go_wp2
          have hS1 : ∀ b, Sb wr (w.heap.size + 2) g b → Sb W5 (w.heap.size + 2) g b := fun b hS => ⟨hS.1, Nat.lt_of_lt_of_le hS.2.1 q4.out.size, hS.2.2⟩
          have hz5 := q2.out
          have hq : ∀ t ∈ (qs ++ [(T.mk kz u0z u1z u2z u3z pz capz mnz mxz txz ksz)]), T.InP W5 (Sb W5 (w.heap.size + 2) g) t := fun t ht => ((ns_kids e2.out t ht).keep fun b hS => q4.out.block b hS.2.1).imp hS1
          have hkid : ∀ t ∈ qs ++ [(T.mk 4 0 0 0 0 (some ⟨wq.heap.size, 0, none⟩) 1 a b ⟨#[]⟩ [(T.mk kz u0z u1z u2z u3z pz capz mnz mxz txz ksz)])], T.InP W5 (Sb W5 (w.heap.size + 2) g) t := fun t ht => by
            rcases List.mem_append.1 ht with ht | ht
            · exact hq t (List.mem_append_left _ ht)
            · simp only [List.mem_cons, List.not_mem_nil, or_false] at ht
              subst ht
              exact rep_inP hwa hwb ((q3.out _ (by omega)).trans hbZ.out) ⟨by omega, by omega, by omega⟩ (hq _ (by simp))
          have hown5 := own_keep2 hown10.out (w' := W5) fun b hb hbl => q3.out b (by have := (hown10.out.lt b hb).1; omega)
          have hns : Ns W5 (Sb W5 (w.heap.size + 2) g) (.slice p10 (qs.length + 1) c10) (qs ++ [(T.mk 4 0 0 0 0 (some ⟨wq.heap.size, 0, none⟩) 1 a b ⟨#[]⟩ [(T.mk kz u0z u1z u2z u3z pz capz mnz mxz txz ksz)])]) := ns_of_own hown5 (by simp) hkid fun b h1 h2 => ⟨by omega, h2, by omega⟩
          have hPS := hst5.out.set (o' := (⟨.slice bp bs.length bc, .slice p10 (qs.length + 1) c10, bs, qs ++ [(T.mk 4 0 0 0 0 (some ⟨wq.heap.size, 0, none⟩) 1 a b ⟨#[]⟩ [(T.mk kz u0z u1z u2z u3z pz capz mnz mxz txz ksz)])]⟩ : Opn)) rfl (hst5.out.each (⟨.slice bp bs.length bc, .slice (some ⟨gp, 0, none⟩) (qs.length + 1) pc, bs, qs ++ [(T.mk kz u0z u1z u2z u3z pz capz mnz mxz txz ksz)]⟩ : Opn) (by simp)).1 hns (by omega : k ≤ n) ⟨by show bs.length ≤ n; omega, by simp; omega⟩
          go_roundw
          case rel => exact Lib.hid ⟨g, cap, os' ++ [(⟨.slice bp bs.length bc, .slice p10 (qs.length + 1) c10, bs, qs ++ [(T.mk 4 0 0 0 0 (some ⟨wq.heap.size, 0, none⟩) 1 a b ⟨#[]⟩ [(T.mk kz u0z u1z u2z u3z pz capz mnz mxz txz ksz)])]⟩ : Opn)], _, true, n, by rw [List.length_append]; rfl, rfl, by go_num, by omega, hPS, by
            have e : opOf (⟨.slice bp bs.length bc, .slice p10 (qs.length + 1) c10, bs, qs ++ [(T.mk 4 0 0 0 0 (some ⟨wq.heap.size, 0, none⟩) 1 a b ⟨#[]⟩ [(T.mk kz u0z u1z u2z u3z pz capz mnz mxz txz ksz)])]⟩ : Opn) = (bs.map T.strip, qs.map T.strip ++ [tR a b ((T.mk kz u0z u1z u2z u3z pz capz mnz mxz txz ksz)).strip]) := by unfold opOf; simp [rep_strip]
            rw [e]
            exact hnx.out⟩
          case measure => simp [intOf]; omega

      · go_simp
        try dsimp only
        refine hK.out _ _ (.of (⟨kept_alloc hHeld.1 _, kept_alloc hHeld.2 _⟩)) (fun hHeld2 => ?_)
        clear hK K hHeld
        have hHeld := hHeld2.resolve_left (by decide)
        clear hHeld2
        try simp only [Act.put, List.getElem_toArray, List.getElem_cons_succ, List.getElem_cons_zero, List.setIfInBounds_toArray, List.set_cons_zero, List.set_cons_succ]
        refine Go.Last.ready (rs := [0]) (by decide +kernel) (by simp) ?_
        refine Go.Last.Next.cons (o := _) rfl (fun K hK => ?_) Go.Last.Next.nil
        go_simp
        try dsimp only
        refine hK.out _ _ (.of (⟨kept_alloc hHeld.1 _, kept_alloc hHeld.2 _⟩)) (fun hHeld2 => ?_)
        clear hK K hHeld
        have hHeld := hHeld2.resolve_left (by decide)
        clear hHeld2
        try simp only [Act.put, List.getElem_toArray, List.getElem_cons_succ, List.getElem_cons_zero, List.setIfInBounds_toArray, List.set_cons_zero, List.set_cons_succ]
        refine Go.Last.ready (rs := [5]) (by decide +kernel) (by simp) ?_
        refine Go.Last.Next.cons (o := _) rfl (fun K hK => ?_) Go.Last.Next.nil
        (refine step_nodes rfl _ _ rfl wd.heap.size _ 0 [] rfl (by first | exact own_mt (World.alloc_heap_new wd _) (Nat.le_refl _) | exact own_mt (kept_alloc (World.alloc_heap_new wd _) _) (Nat.le_refl _) | exact own_mt (at_new2 wd _ _) (by omega)) (some ⟨gp, 0, none⟩) qs.length pc qs rfl (hsP.out _ (by first | exact Bel.new wd _ | exact Bel.alloc (Bel.new wd _) _)) (by omega) (by first | omega | (simp <;> omega)) ?_; intro v9 w9 hown9 hgrow9; rw [Nat.zero_add, List.nil_append] at hown9; obtain ⟨p9, c9, rfl, -⟩ := row_form hown9; have hb9 : Bel wd w9 := Below.grown (by first | exact Bel.new wd _ | exact Bel.alloc (Bel.new wd _) _) hgrow9 (by first | omega | (simp <;> omega)) (fun b e => by have h9 := Option.some.inj e; first | omega | (simp at h9 <;> omega)); have hz9 := hb9.size; have hzg := hgrow9.size; try simp only [World.size_alloc] at hzg)
        try dsimp only
        refine hK.out _ _ (.of (⟨(hgrow9.block _ (by first | omega | (simp <;> omega)) (fun e => by have h9 := Option.some.inj e; first | omega | (simp at h9 <;> omega))).trans hHeld.1, (hgrow9.block _ (by first | omega | (simp <;> omega)) (fun e => by have h9 := Option.some.inj e; first | omega | (simp at h9 <;> omega))).trans hHeld.2⟩)) (fun hHeld2 => ?_)
        clear hK K hHeld
        have hHeld := hHeld2.resolve_left (by decide)
        clear hHeld2
        try simp only [Act.put, List.getElem_toArray, List.getElem_cons_succ, List.getElem_cons_zero, List.setIfInBounds_toArray, List.set_cons_zero, List.set_cons_succ]
        refine Go.Last.ready (rs := [8]) (by decide +kernel) (by simp) ?_
        refine Go.Last.Next.cons (o := _) rfl (fun K hK => ?_) Go.Last.Next.nil
        (refine step_nodes rfl _ _ rfl wd.heap.size _ qs.length qs rfl (by first | exact hown9 | exact hown9.alloc _) _ 1 1 [(T.mk 4 0 0 0 0 (some ⟨wq.heap.size, 0, none⟩) 1 a b ⟨#[]⟩ [(T.mk kz u0z u1z u2z u3z pz capz mnz mxz txz ksz)])] rfl (by first | exact nsrc_one (World.alloc_heap_new w9 _) | exact nsrc_one ((hgrow9.block _ (by first | omega | (simp <;> omega)) (fun e => by have h9 := Option.some.inj e; first | omega | (simp at h9 <;> omega))).trans (at_new2 wd _ _)) | exact nsrc_one ((hgrow9.block _ (by first | omega | (simp <;> omega)) (fun e => by have h9 := Option.some.inj e; first | omega | (simp at h9 <;> omega))).trans (kept_alloc (World.alloc_heap_new wd _) _))) (by omega) (by first | omega | (simp <;> omega)) ?_; intro v10 w10 hown10 hgrow10; obtain ⟨p10, c10, rfl, -⟩ := row_form hown10; have hb10 : Bel wd w10 := Below.grown (by first | exact hb9 | exact Bel.alloc hb9 _) hgrow10 (by first | omega | (simp <;> omega)) (fun b e => (hown9.lt b e).1); have hz10 := hb10.size; have k10 := (cells_of ((hb10.block wr.heap.size (by omega)).trans hbxd.out) 1 _ rfl))
        try dsimp only
        refine hK.out _ _ (.of (⟨(hgrow10.block _ (by first | omega | (simp <;> omega)) (fun e => by have := (hown9.lt _ e.symm).1; omega)).trans hHeld.1, (hgrow10.block _ (by first | omega | (simp <;> omega)) (fun e => by have := (hown9.lt _ e.symm).1; omega)).trans hHeld.2⟩)) (fun hHeld2 => ?_)
        clear hK K hHeld
        have hHeld := hHeld2.resolve_left (by decide)
        clear hHeld2
        try simp only [Act.put, List.getElem_toArray, List.getElem_cons_succ, List.getElem_cons_zero, List.setIfInBounds_toArray, List.set_cons_zero, List.set_cons_succ]
        refine Go.Last.take (i := 9) (v := ?v9u35) rfl (by decide +kernel) (by decide +kernel) (by decide +kernel) (fun _ _ _ h => h) (by decide +kernel) (Or.inl ⟨by rfl, ?h9u35⟩) hHeld ?r9u35
        case h9u35 => (intro wq9 hSw; go_simp <;> with_reducible rfl)
        try simp only [Act.put, List.getElem_toArray, List.getElem_cons_succ, List.getElem_cons_zero, List.setIfInBounds_toArray, List.set_cons_zero, List.set_cons_succ]
        refine Go.Last.ready (rs := [10]) (by decide +kernel) (by simp) ?_
        refine Go.Last.Next.cons (o := _) rfl (fun K hK => ?_) Go.Last.Next.nil
        go_simp
        try dsimp only
        refine hK.out _ _ .last (fun _ => ?_)
        clear hK K hHeld
        try simp only [Act.put, List.getElem_toArray, List.getElem_cons_succ, List.getElem_cons_zero, List.setIfInBounds_toArray, List.set_cons_zero, List.set_cons_succ]
        refine Go.Last.done (by decide +kernel) ?_ _
        obtain ⟨k10, f10⟩ := k10
        have hbB := (hb10.block wr.heap.size (by omega)).trans hbxd.out
        have hbZ := (hb10.block wq.heap.size (by omega)).trans hzd.out
        obtain ⟨W5, hW5⟩ : ∃ W5, World.setCell w10 (⟨wr.heap.size, 1, none⟩ : Addr) (.slice p10 (qs.length + 1) c10) = W5 := ⟨_, rfl⟩
        rw [hW5]
        have q1 : W5.heap[wr.heap.size]? = some (.cells #[.slice bp bs.length bc, .slice p10 (qs.length + 1) c10] 58 (0, 0)) := by
          rw [← hW5]
          exact box_set hbB 1 _
        have q2 : W5.heap.size = w10.heap.size := by rw [← hW5, size_set]
        have q3 : ∀ b, b ≠ wr.heap.size → W5.heap[b]? = w10.heap[b]? := fun b hb => by rw [← hW5]; exact Below.heap_setCell _ _ _ _ hb
        have q4 : Bel wr W5 := by
          rw [← hW5]
          exact (Bel.step hbd.out (hb10.mono (Nat.le_refl _))).setCell (Nat.le_refl _) _
        clear hW5
        have hst5 := hst.out.step q4
        obtain ⟨j0, -⟩ := cells_of q1 0 _ rfl
        obtain ⟨j1, -⟩ := cells_of q1 1 _ rfl
        obtain ⟨y0, y1, z0, z1⟩ := hst5.pil.cell (i := os'.length) (by simp)
        replace hst5 := Lib.hid hst5
        replace q1 := Lib.hid q1
        replace q2 := Lib.hid q2
        replace q3 := Lib.hid q3
        replace q4 := Lib.hid q4
        replace hbB := Lib.hid hbB
        replace hbZ := Lib.hid hbZ
        replace hown10 := Lib.hid hown10
        clear hgrow10 hgrow9 hown9 k10 f10
        go_wp2
        have hS1 : ∀ b, Sb wr (w.heap.size + 2) g b → Sb W5 (w.heap.size + 2) g b := fun b hS => ⟨hS.1, Nat.lt_of_lt_of_le hS.2.1 q4.out.size, hS.2.2⟩
        have hz5 := q2.out
        have hq : ∀ t ∈ (qs ++ [(T.mk kz u0z u1z u2z u3z pz capz mnz mxz txz ksz)]), T.InP W5 (Sb W5 (w.heap.size + 2) g) t := fun t ht => ((ns_kids e2.out t ht).keep fun b hS => q4.out.block b hS.2.1).imp hS1
        have hkid : ∀ t ∈ qs ++ [(T.mk 4 0 0 0 0 (some ⟨wq.heap.size, 0, none⟩) 1 a b ⟨#[]⟩ [(T.mk kz u0z u1z u2z u3z pz capz mnz mxz txz ksz)])], T.InP W5 (Sb W5 (w.heap.size + 2) g) t := fun t ht => by
          rcases List.mem_append.1 ht with ht | ht
          · exact hq t (List.mem_append_left _ ht)
          · simp only [List.mem_cons, List.not_mem_nil, or_false] at ht
            subst ht
            exact rep_inP hwa hwb ((q3.out _ (by omega)).trans hbZ.out) ⟨by omega, by omega, by omega⟩ (hq _ (by simp))
        have hown5 := own_keep2 hown10.out (w' := W5) fun b hb hbl => q3.out b (by have := (hown10.out.lt b hb).1; omega)
        have hns : Ns W5 (Sb W5 (w.heap.size + 2) g) (.slice p10 (qs.length + 1) c10) (qs ++ [(T.mk 4 0 0 0 0 (some ⟨wq.heap.size, 0, none⟩) 1 a b ⟨#[]⟩ [(T.mk kz u0z u1z u2z u3z pz capz mnz mxz txz ksz)])]) := ns_of_own hown5 (by simp) hkid fun b h1 h2 => ⟨by omega, h2, by omega⟩
        have hPS := hst5.out.set (o' := (⟨.slice bp bs.length bc, .slice p10 (qs.length + 1) c10, bs, qs ++ [(T.mk 4 0 0 0 0 (some ⟨wq.heap.size, 0, none⟩) 1 a b ⟨#[]⟩ [(T.mk kz u0z u1z u2z u3z pz capz mnz mxz txz ksz)])]⟩ : Opn)) rfl (hst5.out.each (⟨.slice bp bs.length bc, .slice (some ⟨gp, 0, none⟩) (qs.length + 1) pc, bs, qs ++ [(T.mk kz u0z u1z u2z u3z pz capz mnz mxz txz ksz)]⟩ : Opn) (by simp)).1 hns (by omega : k ≤ n) ⟨by show bs.length ≤ n; omega, by simp; omega⟩
        go_roundw
        case rel => exact Lib.hid ⟨g, cap, os' ++ [(⟨.slice bp bs.length bc, .slice p10 (qs.length + 1) c10, bs, qs ++ [(T.mk 4 0 0 0 0 (some ⟨wq.heap.size, 0, none⟩) 1 a b ⟨#[]⟩ [(T.mk kz u0z u1z u2z u3z pz capz mnz mxz txz ksz)])]⟩ : Opn)], _, true, n, by rw [List.length_append]; rfl, rfl, by go_num, by omega, hPS, by
          have e : opOf (⟨.slice bp bs.length bc, .slice p10 (qs.length + 1) c10, bs, qs ++ [(T.mk 4 0 0 0 0 (some ⟨wq.heap.size, 0, none⟩) 1 a b ⟨#[]⟩ [(T.mk kz u0z u1z u2z u3z pz capz mnz mxz txz ksz)])]⟩ : Opn) = (bs.map T.strip, qs.map T.strip ++ [tR a b ((T.mk kz u0z u1z u2z u3z pz capz mnz mxz txz ksz)).strip]) := by unfold opOf; simp [rep_strip]
          rw [e]
          exact hnx.out⟩
        case measure => simp [intOf]; omega


  · skip
    have hb9 : ∃ a b, Bd (nl s) k a b n e ∧ (nl s)[k]? = some 123 ∧ Dg (nl s) (k + 1) := by
      cases hMk with
      | star => exact absurd rfl he
      | plus => exact absurd rfl he
      | opt => exact absurd rfl he
      | bounds _ _ _ _ h hd hb => exact ⟨_, _, hb, h, hd⟩
    obtain ⟨a, b, hb, h, hd⟩ := hb9
    have hc : c = 123 := Option.some.inj (h0.out.symm.trans h)
    have g43 : ((c : Int) == 43) = false := by rw [beq_eq_false_iff_ne]; omega
    have g63 : ((c : Int) == 63) = false := by rw [beq_eq_false_iff_ne]; omega
    have g123 : ((c : Int) == 123) = true := by rw [beq_iff_eq]; omega
    have ge : ((e : Int) != 0) = true := by rw [bne_iff_ne]; omega
    have cD := Lib.hid (fun w => rdig_yes' (i := (k : Int) + 1) (by omega) hd (by omega : s.size ≤ 99990) (by omega) w)
    have cB : ∀ w, Calls Tryd.prog 23 #[.string s, .int .i64 k] w fun e' w' => e' = .returned (.tuple #[.int .i64 a, .int .i64 b, .int .i64 n, .int .i64 e]) ∧ w = w' := fun w => rbounds_in hb (by omega) w
    replace cB := Lib.hid cB
    replace hc := Lib.hid hc
    subst ho
    clear hb hd h hMk he
    have hk2 := cells_of hst.out.b5
    obtain ⟨x0, -⟩ := hk2 0 _ rfl; obtain ⟨x1, -⟩ := hk2 1 _ rfl; obtain ⟨x2, -⟩ := hk2 2 _ rfl; obtain ⟨x3, -⟩ := hk2 3 _ rfl; obtain ⟨x4, -⟩ := hk2 4 _ rfl; obtain ⟨x5, -⟩ := hk2 5 _ rfl; obtain ⟨x6, -⟩ := hk2 6 _ rfl; obtain ⟨x7, -⟩ := hk2 7 _ rfl; obtain ⟨x8, -⟩ := hk2 8 _ rfl
    clear hk2
    have hk2 := cells_of hst.out.b2
    obtain ⟨y0, f0⟩ := hk2 0 _ rfl; obtain ⟨y1, f1⟩ := hk2 1 _ rfl; obtain ⟨y2, f2⟩ := hk2 2 _ rfl; obtain ⟨y3, f3⟩ := hk2 3 _ rfl; obtain ⟨y4, f4⟩ := hk2 4 _ rfl; obtain ⟨y5, f5⟩ := hk2 5 _ rfl; obtain ⟨y6, f6⟩ := hk2 6 _ rfl; obtain ⟨y7, f7⟩ := hk2 7 _ rfl; obtain ⟨y8, f8⟩ := hk2 8 _ rfl
    clear hk2

    go_wp2_with (first | (go_at_call 22; (with_reducible refine (cD.out _).mono ?_); rintro e w' ⟨rfl, rfl⟩) | (go_at_call 23; (with_reducible refine (cB.out _).mono ?_); rintro e w' ⟨rfl, rfl⟩))
    obtain ⟨q1, q2, q3, q4⟩ := set9 (b := w.heap.size) (d0 := .int .i64 0) (d1 := .int .u64 0) (d2 := .int .u64 0) (d3 := .int .u64 0) (d4 := .int .u64 0) (d5 := .slice none 0 0) (d6 := .int .i64 0) (d7 := .int .i64 0) (d8 := .string ⟨#[]⟩) hst.out.b2 _ rfl
    generalize hW : World.setCell _ (⟨w.heap.size, 8, none⟩ : Addr) _ = W9 at *
    clear hW
    have q5 := kept_alloc q1 (.cells #[.slice bp bs.length bc, .slice pp ps.length pc] 58)
    have hk9 := cells_of q5
    obtain ⟨z0, -⟩ := hk9 0 _ rfl
    obtain ⟨z1, -⟩ := hk9 1 _ rfl
    obtain ⟨z2, -⟩ := hk9 2 _ rfl
    obtain ⟨z3, -⟩ := hk9 3 _ rfl
    obtain ⟨z4, -⟩ := hk9 4 _ rfl
    obtain ⟨z5, -⟩ := hk9 5 _ rfl
    obtain ⟨z6, -⟩ := hk9 6 _ rfl
    obtain ⟨z7, -⟩ := hk9 7 _ rfl
    obtain ⟨z8, -⟩ := hk9 8 _ rfl
    clear hk9
    refine bodyPost_ret (v := .tuple #[.agg #[.int .i64 0, .int .u64 0, .int .u64 0, .int .u64 0, .int .u64 0, .slice none 0 0, .int .i64 0, .int .i64 0, .string ⟨#[]⟩], .int .i64 n, .int .i64 (e : Int)]) (by simp [results, Tryd.results8, go_sem, z0, z1, z2, z3, z4, z5, z6, z7, z8]) rfl ?_
    rw [hG.out]
    exact ⟨(hst.out.bel.trans (q4 _ (Nat.le_refl _))).alloc (by rw [q2]; omega) _, rfl⟩


end Go.Proofs.YtjlmeegaiagfpaaDoor
