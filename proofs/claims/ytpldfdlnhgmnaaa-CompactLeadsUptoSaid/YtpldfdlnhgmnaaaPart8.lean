import Derived.Test.YtpldfdlnhgmnaaaPart7
/-
  The document's Apply: its first loop: the drops.
-/
namespace Go.Proofs.Ytpldfdlnhgmnaaa
open Go.RowKit
set_option linter.unusedSimpArgs false
set_option linter.unusedVariables false
namespace Mf
open Op (bytesLess)
open Md10 (setCell_self)
set_option maxRecDepth 1000000 in
set_option maxHeartbeats 40000000 in
theorem app_drops (R : Act → World → Prop) (X : Nat → Act → World → Prop) (e : Ed) (HD : List Int) (bl be br : Nat) (aa : Option Addr) (ac : Nat) (da : Option Addr) (dc db dof : Nat) (ah : Option Addr) (ch : Nat) (w w3 : World) {v0 v1 v5 v6 v9 v10 v11 v12 v13 v14 v15 v16 v17 v18 v19 v20 v21 v22 v23 v24 v25 v26 v27 v28 v29 v30 v31 v32 v33 v34 v35 v36 v37 v38 v39 v40 v41 v42 v43 v44 v45 v46 v47 v48 v49 v50 v51 v52 v53 v54 v55 v56 v57 v58 v59 v60 v61 v62 v63 v64 v65 v66 v67 v68 v69 v70 v71 v72 v73 v74 v75 v76 v77 v78 v79 v80 v81 v82 v83 v84 v85 v86 v87 v88 v89 v90 v91 v92 v93 v94 v95 v96 v97 v98 v99 v100 v101 v102 v103 v104 v105 v106 v107 v108 v109 v110 v111 v112 v113 v114 v115 v116 v117 v118 v119 v120 v121 v122 v123 v124 v125 v126 v127 v128 v129 v130 v131 v132 v133 v134 v135 v136 v137 v138 v139 v140 v141 v142 v143 v144 v145 v146 v147 v148 v149 v150 v151 v152 v153 v154 v155 v156 v157 v158 v159 v160 v161 v162 v163 v164 v165 v166 v167 v168 v169 v170 v171 v172 v173 v174 v175 v176 v177 v178 v179 v180 v181 v182 v183 v184 v185 v186 v187 v188 v189 v190 v191 v192 v193 : Value}
    (y3 : Ob.Obj w3 be 30 [.int .u64 e.next, .int .u64 e.seq, .int .u64 e.log, .slice aa e.add.length ac, .slice da e.drop.length dc]) (z3 : Ob.Obj w3 br 27 [.int .u64 0, .int .u64 0, .int .u64 0, .slice none 0 0, .slice none 0 0, .slice none 0 0, .slice none 0 0]) (b3 : Below w.heap.size w w3)
    (hda : 0 < e.drop.length → da = some ⟨db, dof, none⟩ ∧ db < w.heap.size) (hdcap : e.drop.length ≤ dc) (hfew : e.drop.length ≤ 1048576)
    (HDC : Hid (∀ j (h : j < e.drop.length), w.cell? ⟨db, dof + j, none⟩ = some (.int .u64 e.drop[j]))) (hnl : HD.length ≤ 4194304)
    (HAM : Hid (∀ (v : Value) (l : List Int) (n : Int) (W : World) (b : Bool), Ns W.heap.size W v l → l.length ≤ 4611686018427387904 → decide (n ∈ l) = b → Calls Try.prog 32 #[v, .int .u64 n] W fun e w' => e = .returned (.bool b) ∧ Below W.heap.size W w'))
    (HV3 : Hid (∀ W, Below w3.heap.size w3 W → Ns W.heap.size W (.slice ah HD.length ch) HD))
    (HRET : Hid (∀ (x0 x1 x2 x3 x6 x7 x8 x9 x10 x11 x12 x13 x14 x15 x16 x17 x18 x19 x20 x21 x22 x23 x24 x25 x26 x27 x28 x29 x30 x31 x32 x33 x34 x35 x36 x37 x38 x39 x40 x41 x42 x43 x44 x45 x46 x47 x48 x49 x50 x51 x52 x53 x54 x55 x56 x57 x58 x59 x60 x61 x62 x63 x64 x65 x66 x67 x68 x69 x70 x71 x72 x73 x74 x75 x76 x77 x78 x79 x80 x81 x82 x83 x84 x85 x86 x87 x88 x89 x90 x91 x92 x93 x94 x95 x96 x97 x98 x99 x100 x101 x102 x103 x104 x105 x106 x107 x108 x109 x110 x111 x112 x113 x114 x115 x116 x117 x118 x119 x120 x121 x122 x123 x124 x125 x126 x127 x128 x129 x130 x131 x132 x133 x134 x135 x136 x137 x138 x139 x140 x141 x142 x143 x144 x145 x146 x147 x148 x149 x150 x151 x152 x153 x154 x155 x156 x157 x158 x159 x160 x161 x162 x163 x164 x165 x166 x167 x168 x169 x170 x171 x172 x173 x174 x175 x176 x177 x178 x179 x180 x181 x182 x183 x184 x185 x186 x187 x188 x189 x190 x191 x192 x193 : Value) (W' : World) (q : Nat), Below w3.heap.size w3 W' → q < e.drop.length → okD HD e.drop q = false → R ⟨#[x0, x1, x2, x3, .pointer (some ⟨br, 0, none⟩), .int .i64 3, x6, x7, x8, x9, x10, x11, x12, x13, x14, x15, x16, x17, x18, x19, x20, x21, x22, x23, x24, x25, x26, x27, x28, x29, x30, x31, x32, x33, x34, x35, x36, x37, x38, x39, x40, x41, x42, x43, x44, x45, x46, x47, x48, x49, x50, x51, x52, x53, x54, x55, x56, x57, x58, x59, x60, x61, x62, x63, x64, x65, x66, x67, x68, x69, x70, x71, x72, x73, x74, x75, x76, x77, x78, x79, x80, x81, x82, x83, x84, x85, x86, x87, x88, x89, x90, x91, x92, x93, x94, x95, x96, x97, x98, x99, x100, x101, x102, x103, x104, x105, x106, x107, x108, x109, x110, x111, x112, x113, x114, x115, x116, x117, x118, x119, x120, x121, x122, x123, x124, x125, x126, x127, x128, x129, x130, x131, x132, x133, x134, x135, x136, x137, x138, x139, x140, x141, x142, x143, x144, x145, x146, x147, x148, x149, x150, x151, x152, x153, x154, x155, x156, x157, x158, x159, x160, x161, x162, x163, x164, x165, x166, x167, x168, x169, x170, x171, x172, x173, x174, x175, x176, x177, x178, x179, x180, x181, x182, x183, x184, x185, x186, x187, x188, x189, x190, x191, x192, x193], []⟩ W'))
    (HEX : Hid (∀ (x5 x8 x9 x10 x47 x48 x49 x50 x51 x52 x53 x54 x55 x56 x57 x58 x59 x60 x61 x62 x63 x64 x65 x66 x67 x68 x69 x70 x71 x72 x73 x74 x75 x76 : Value) (W' : World), Below w3.heap.size w3 W' → (∀ j, j < e.drop.length → okD HD e.drop j = true) → X 0 ⟨#[v0, v1, .pointer (some ⟨bl, 0, none⟩), .pointer (some ⟨be, 0, none⟩), .pointer (some ⟨br, 0, none⟩), x5, v6, .slice ah HD.length ch, x8, x9, x10, v11, v12, v13, v14, v15, v16, v17, v18, v19, v20, v21, v22, v23, v24, v25, v26, v27, v28, v29, v30, v31, v32, v33, v34, v35, v36, v37, v38, v39, v40, v41, v42, v43, v44, v45, v46, x47, x48, x49, x50, x51, x52, x53, x54, x55, x56, x57, x58, x59, x60, x61, x62, x63, x64, x65, x66, x67, x68, x69, x70, x71, x72, x73, x74, x75, x76, v77, v78, v79, v80, v81, v82, v83, v84, v85, v86, v87, v88, v89, v90, v91, v92, v93, v94, v95, v96, v97, v98, v99, v100, v101, v102, v103, v104, v105, v106, v107, v108, v109, v110, v111, v112, v113, v114, v115, v116, v117, v118, v119, v120, v121, v122, v123, v124, v125, v126, v127, v128, v129, v130, v131, v132, v133, v134, v135, v136, v137, v138, v139, v140, v141, v142, v143, v144, v145, v146, v147, v148, v149, v150, v151, v152, v153, v154, v155, v156, v157, v158, v159, v160, v161, v162, v163, v164, v165, v166, v167, v168, v169, v170, v171, v172, v173, v174, v175, v176, v177, v178, v179, v180, v181, v182, v183, v184, v185, v186, v187, v188, v189, v190, v191, v192, v193], []⟩ W')) :
    Code.wp Try.prog (apLoop 0) (Post R X) ⟨#[v0, v1, .pointer (some ⟨bl, 0, none⟩), .pointer (some ⟨be, 0, none⟩), .pointer (some ⟨br, 0, none⟩), v5, v6, .slice ah HD.length ch, .int .i64 0, v9, v10, v11, v12, v13, v14, v15, v16, v17, v18, v19, v20, v21, v22, v23, v24, v25, v26, v27, v28, v29, v30, v31, v32, v33, v34, v35, v36, v37, v38, v39, v40, v41, v42, v43, v44, v45, v46, v47, v48, v49, v50, v51, v52, v53, v54, v55, v56, v57, v58, v59, v60, v61, v62, v63, v64, v65, v66, v67, v68, v69, v70, v71, v72, v73, v74, v75, v76, v77, v78, v79, v80, v81, v82, v83, v84, v85, v86, v87, v88, v89, v90, v91, v92, v93, v94, v95, v96, v97, v98, v99, v100, v101, v102, v103, v104, v105, v106, v107, v108, v109, v110, v111, v112, v113, v114, v115, v116, v117, v118, v119, v120, v121, v122, v123, v124, v125, v126, v127, v128, v129, v130, v131, v132, v133, v134, v135, v136, v137, v138, v139, v140, v141, v142, v143, v144, v145, v146, v147, v148, v149, v150, v151, v152, v153, v154, v155, v156, v157, v158, v159, v160, v161, v162, v163, v164, v165, v166, v167, v168, v169, v170, v171, v172, v173, v174, v175, v176, v177, v178, v179, v180, v181, v182, v183, v184, v185, v186, v187, v188, v189, v190, v191, v192, v193], []⟩ w3 := by
  dsimp only at HRET HEX ⊢
  conv => arg 2; whnf
  have HDN := Lib.hid (fun W (h : Below w.heap.size w W) => (show Ns w.heap.size w (.slice da e.drop.length dc) e.drop from ⟨da, dc, db, dof, rfl, hda, HDC.out⟩).grow h h.size)
  go_loopw [8] (fun i wr => ∃ q : Nat, q ≤ e.drop.length ∧ i = .int .i64 (q : Int) ∧ Hid (∀ j, j < q → okD HD e.drop j = true) ∧ Below w3.heap.size w3 wr) (fun i _ => e.drop.length - (intOf i).toNat)
  case atStart => exact ⟨0, Nat.zero_le _, rfl, fun j hj => by omega, Below.refl _ _⟩
  case round =>
    obtain ⟨q, hq, rfl, hall, hB⟩ := hrel
    obtain ⟨wo, rfl⟩ : ∃ wo : World, wo = wr := ⟨_, rfl⟩
    have y4 := y3.below hB
    have z4 := z3.below hB
    have b4 := b3.trans (hB.mono b3.size)
    have e4 := y4.cell 4
    simp at e4
    by_cases hlt : q < e.drop.length
    · obtain ⟨rfl, hfb⟩ := hda (by omega)
      have HTK := Lib.hid (fun W (h : Below w.heap.size w W) => Ns.take (HDN.out W h) hq)
      have d0 := (b4.cell (p := ⟨db, dof + q, none⟩) hfb).trans (HDC.out q hlt)
      have hi1 : (0 : Int) ≤ (q : Int) ∧ (q : Int) < (e.drop.length : Int) := by omega
      have hi2 : (0 : Int) ≤ (q : Int) ∧ (q : Int) ≤ (dc : Int) := by omega
      have hdg : e.drop.getD q 0 = e.drop[q] := by rw [List.getD_eq_getElem?_getD, List.getElem?_eq_getElem hlt, Option.getD_some]
      obtain ⟨c1, hc1⟩ : ∃ c1, decide (e.drop[q] ∈ HD) = c1 := ⟨_, rfl⟩
      obtain ⟨c2, hc2⟩ : ∃ c2, decide (e.drop[q] ∈ e.drop.take q) = c2 := ⟨_, rfl⟩
      have HOD := Lib.hid (show okD HD e.drop q = (c1 && !c2) by unfold okD; rw [hdg, ← hc1, ← hc2]; simp)
      have HC1 := Lib.hid hc1
      have HC2 := Lib.hid hc2
      have hql : (e.drop.take q).length ≤ 4611686018427387904 := by rw [List.length_take]; omega
      clear hc1 hc2 hdg
      generalize e.drop[q] = x at *
      go_upto_region 11 with (go_at_call 32; with_reducible refine (HAM.out _ HD _ _ c1 (HV3.out _ hB) (by omega) HC1.out).mono ?_; rintro r w5 ⟨rfl, hb5⟩)
      have y5 := y4.below hb5
      have z5 := z4.below hb5
      have b5 := b4.trans (hb5.mono b4.size)
      have hB5 := hB.trans (hb5.mono hB.size)
      have d5 := (hb5.cell (p := ⟨db, dof + q, none⟩) (Nat.lt_of_lt_of_le hfb b4.size)).trans d0
      clear e4 d0 y4 z4 hb5
      have e4 := y5.cell 4
      simp at e4
      go_cut [10] from 61 to 70 (fun r wx => r = .bool c2 ∧ Below w5.heap.size w5 wx)
      case first =>
        go_region_with (go_at_call 32; with_reducible refine (HAM.out _ _ _ _ c2 (HTK.out _ b5.drew) hql HC2.out).mono ?_; rintro r w6 ⟨rfl, hb6⟩)
        all_goals (try go_wp2_with fail)
        all_goals go_meet
        all_goals exact ⟨rfl, (Below.refl _ _).drew.trans hb6⟩
      case rest =>
        obtain ⟨rfl, hb6⟩ := hcut
        have z6 := z5.below hb6
        have hB6 := hB5.trans (hb6.mono hB5.size)
        clear e4 d5 hi1 hi2 y5 z5 b5 hB5
        have r0 := z6.cell 0; have f0 := z6.frozen 0; have r1 := z6.cell 1; have f1 := z6.frozen 1; have r2 := z6.cell 2; have f2 := z6.frozen 2; have r3 := z6.cell 3; have f3 := z6.frozen 3; have r4 := z6.cell 4; have f4 := z6.frozen 4; have r5 := z6.cell 5; have f5 := z6.frozen 5; have r6 := z6.cell 6; have f6 := z6.frozen 6; simp at r0 r1 r2 r3 r4 r5 r6
        cases hcc : (c1 && !c2) with
        | false =>
          have HF := Lib.hid (HOD.out.trans hcc)
          cases c1 with
          | false =>
            go_wp2_with fail
            rw [setCell_self r0, setCell_self r1, setCell_self r2, setCell_self r3, setCell_self r4, setCell_self r5, setCell_self r6]
            exact HRET.out _ _ _ _ _ _ _ _ _ _ _ _ _ _ _ _ _ _ _ _ _ _ _ _ _ _ _ _ _ _ _ _ _ _ _ _ _ _ _ _ _ _ _ _ _ _ _ _ _ _ _ _ _ _ _ _ _ _ _ _ _ _ _ _ _ _ _ _ _ _ _ _ _ _ _ _ _ _ _ _ _ _ _ _ _ _ _ _ _ _ _ _ _ _ _ _ _ _ _ _ _ _ _ _ _ _ _ _ _ _ _ _ _ _ _ _ _ _ _ _ _ _ _ _ _ _ _ _ _ _ _ _ _ _ _ _ _ _ _ _ _ _ _ _ _ _ _ _ _ _ _ _ _ _ _ _ _ _ _ _ _ _ _ _ _ _ _ _ _ _ _ _ _ _ _ _ _ _ _ _ _ _ _ _ _ _ _ _ _ _ _ _ _ q hB6 hlt HF.out
          | true =>
            cases c2 with
            | false => cases hcc
            | true =>
              go_wp2_with fail
              rw [setCell_self r0, setCell_self r1, setCell_self r2, setCell_self r3, setCell_self r4, setCell_self r5, setCell_self r6]
              exact HRET.out _ _ _ _ _ _ _ _ _ _ _ _ _ _ _ _ _ _ _ _ _ _ _ _ _ _ _ _ _ _ _ _ _ _ _ _ _ _ _ _ _ _ _ _ _ _ _ _ _ _ _ _ _ _ _ _ _ _ _ _ _ _ _ _ _ _ _ _ _ _ _ _ _ _ _ _ _ _ _ _ _ _ _ _ _ _ _ _ _ _ _ _ _ _ _ _ _ _ _ _ _ _ _ _ _ _ _ _ _ _ _ _ _ _ _ _ _ _ _ _ _ _ _ _ _ _ _ _ _ _ _ _ _ _ _ _ _ _ _ _ _ _ _ _ _ _ _ _ _ _ _ _ _ _ _ _ _ _ _ _ _ _ _ _ _ _ _ _ _ _ _ _ _ _ _ _ _ _ _ _ _ _ _ _ _ _ _ _ _ _ _ _ _ q hB6 hlt HF.out
        | true =>
          have HALL := Lib.hid (show ∀ j, j < q + 1 → okD HD e.drop j = true from fun j hj => by
            by_cases e1 : j = q
            · subst e1; exact HOD.out.trans hcc
            · exact hall.out j (by omega))
          cases c1 with
          | false => cases hcc
          | true =>
            cases c2 with
            | true => cases hcc
            | false =>
              clear r0 r1 r2 r3 r4 r5 r6 f0 f1 f2 f3 f4 f5 f6
              go_wp2_with fail
              go_roundw
              case rel => exact ⟨q + 1, by omega, by go_num, HALL.out, hB6⟩
              case measure => simp [intOf]; omega
    · obtain rfl : q = e.drop.length := by omega
      have hi1 : ¬ (e.drop.length : Int) < (e.drop.length : Int) := by omega
      have HB := Lib.hid hB
      clear hB z3 y3 b3 z4 b4
      go_wp2_with fail
      exact HEX.out _ _ _ _ _ _ _ _ _ _ _ _ _ _ _ _ _ _ _ _ _ _ _ _ _ _ _ _ _ _ _ _ _ _ _ HB.out hall.out
end Mf
end Go.Proofs.Ytpldfdlnhgmnaaa

/-
  The document's Apply: its second loop: what stays in the levels.
-/
namespace Go.Proofs.Ytpldfdlnhgmnaaa
open Go.RowKit
set_option linter.unusedSimpArgs false
set_option linter.unusedVariables false
namespace Mf
open Op (bytesLess)
open Md10 (setCell_self)
set_option maxRecDepth 1000000 in
set_option maxHeartbeats 40000000 in
theorem app_stay (R : Act → World → Prop) (X : Nat → Act → World → Prop) (l : Lv) (e : Ed) (bl be bo : Nat) (aa : Option Addr) (ac : Nat) (da : Option Addr) (dc : Nat) (a0 a1 a2 a3 : Option Addr) (n0 n1 n2 n3 c0 c1 c2 c3 : Nat) (u : Nat → Value) (w wo wS : World) {v0 v1 v4 v5 v6 v7 v8 v9 v10 v13 v14 v15 v16 v17 v18 v19 v20 v21 v22 v23 v24 v25 v26 v27 v28 v29 v30 v31 v32 v33 v34 v35 v36 v37 v38 v39 v40 v41 v42 v43 v44 v45 v46 v47 v48 v49 v50 v51 v52 v53 v54 v55 v56 v57 v58 v59 v60 v61 v62 v63 v64 v65 v66 v67 v68 v69 v70 v71 v72 v73 v74 v75 v76 v77 v78 v79 v80 v81 v82 v83 v84 v85 v86 v87 v88 v89 v90 v91 v92 v93 v94 v95 v96 v97 v98 v99 v100 v101 v102 v103 v104 v105 v106 v107 v108 v109 v110 v111 v112 v113 v114 v115 v116 v117 v118 v119 v120 v121 v122 v123 v124 v125 v126 v127 v128 v129 v130 v131 v132 v133 v134 v135 v136 v137 v138 v139 v140 v141 v142 v143 v144 v145 v146 v147 v148 v149 v150 v151 v152 v153 v154 v155 v156 v157 v158 v159 v160 v161 v162 v163 v164 v165 v166 v167 v168 v169 v170 v171 v172 v173 v174 v175 v176 v177 v178 v179 v180 v181 v182 v183 v184 v185 v186 v187 v188 v189 v190 v191 v192 v193 : Value}
    (HL : Hid (∀ W, Below w.heap.size w W → LvIn W.heap.size W l (.slice a0 n0 c0) (.slice a1 n1 c1) (.slice a2 n2 c2) (.slice a3 n3 c3)))
    (HDN : Hid (∀ W, Below w.heap.size w W → Ns W.heap.size W (.slice da e.drop.length dc) e.drop)) (hfew : e.drop.length ≤ 1048576)
    (HAM : Hid (∀ (v : Value) (l : List Int) (n : Int) (W : World) (b : Bool), Ns W.heap.size W v l → l.length ≤ 4611686018427387904 → decide (n ∈ l) = b → Calls Try.prog 32 #[v, .int .u64 n] W fun e w' => e = .returned (.bool b) ∧ Below W.heap.size W w'))
    (HX4 : Hid (Ob.Obj wo bl 27 [.int .u64 l.next, .int .u64 l.seq, .int .u64 l.log, .slice a0 n0 c0, .slice a1 n1 c1, .slice a2 n2 c2, .slice a3 n3 c3])) (HY4 : Hid (Ob.Obj wo be 30 [.int .u64 e.next, .int .u64 e.seq, .int .u64 e.log, .slice aa e.add.length ac, .slice da e.drop.length dc])) (HB4 : Hid (Below w.heap.size w wo)) (HBO : Hid (wo.heap.size = bo))
    (hS0 : Hid (LvS (bo + 1) bo e.next e.seq e.log (stG e.drop l.t 0 0) u wS)) (hBS : Below wo.heap.size wo wS)
    (HEX : Hid (∀ (x12 x13 x14 x84 x85 x86 x87 x88 x89 x90 x91 x92 x93 x94 x95 x96 x97 x98 x99 x100 x101 x102 x103 x104 x105 x106 x107 x108 x109 x110 x111 x112 x113 x114 x115 x116 x117 x118 x119 x120 x121 x122 x123 x124 x125 : Value) (W' : World) (u : Nat → Value), LvS (bo + 1) bo e.next e.seq e.log (stay e.drop l.t) u W' → Below wo.heap.size wo W' → X 2 ⟨#[v0, v1, .pointer (some ⟨bl, 0, none⟩), .pointer (some ⟨be, 0, none⟩), v4, v5, v6, v7, v8, v9, v10, .pointer (some ⟨bo, 0, none⟩), x12, x13, x14, v15, v16, v17, v18, v19, v20, v21, v22, v23, v24, v25, v26, v27, v28, v29, v30, v31, v32, v33, v34, v35, v36, v37, v38, v39, v40, v41, v42, v43, v44, v45, v46, v47, v48, v49, v50, v51, v52, v53, v54, v55, v56, v57, v58, v59, v60, v61, v62, v63, v64, v65, v66, v67, v68, v69, v70, v71, v72, v73, v74, v75, v76, v77, v78, v79, v80, v81, v82, v83, x84, x85, x86, x87, x88, x89, x90, x91, x92, x93, x94, x95, x96, x97, x98, x99, x100, x101, x102, x103, x104, x105, x106, x107, x108, x109, x110, x111, x112, x113, x114, x115, x116, x117, x118, x119, x120, x121, x122, x123, x124, x125, v126, v127, v128, v129, v130, v131, v132, v133, v134, v135, v136, v137, v138, v139, v140, v141, v142, v143, v144, v145, v146, v147, v148, v149, v150, v151, v152, v153, v154, v155, v156, v157, v158, v159, v160, v161, v162, v163, v164, v165, v166, v167, v168, v169, v170, v171, v172, v173, v174, v175, v176, v177, v178, v179, v180, v181, v182, v183, v184, v185, v186, v187, v188, v189, v190, v191, v192, v193], []⟩ W')) :
    Code.wp Try.prog (apLoop 1) (Post R X) ⟨#[v0, v1, .pointer (some ⟨bl, 0, none⟩), .pointer (some ⟨be, 0, none⟩), v4, v5, v6, v7, v8, v9, v10, .pointer (some ⟨bo, 0, none⟩), .int .i64 0, v13, v14, v15, v16, v17, v18, v19, v20, v21, v22, v23, v24, v25, v26, v27, v28, v29, v30, v31, v32, v33, v34, v35, v36, v37, v38, v39, v40, v41, v42, v43, v44, v45, v46, v47, v48, v49, v50, v51, v52, v53, v54, v55, v56, v57, v58, v59, v60, v61, v62, v63, v64, v65, v66, v67, v68, v69, v70, v71, v72, v73, v74, v75, v76, v77, v78, v79, v80, v81, v82, v83, v84, v85, v86, v87, v88, v89, v90, v91, v92, v93, v94, v95, v96, v97, v98, v99, v100, v101, v102, v103, v104, v105, v106, v107, v108, v109, v110, v111, v112, v113, v114, v115, v116, v117, v118, v119, v120, v121, v122, v123, v124, v125, v126, v127, v128, v129, v130, v131, v132, v133, v134, v135, v136, v137, v138, v139, v140, v141, v142, v143, v144, v145, v146, v147, v148, v149, v150, v151, v152, v153, v154, v155, v156, v157, v158, v159, v160, v161, v162, v163, v164, v165, v166, v167, v168, v169, v170, v171, v172, v173, v174, v175, v176, v177, v178, v179, v180, v181, v182, v183, v184, v185, v186, v187, v188, v189, v190, v191, v192, v193], []⟩ wS := by
  dsimp only at HEX ⊢
  conv => arg 2; whnf
  obtain ⟨i0, hi, hz0, hz1, hz2⟩ := info_parts info_Table10
  have HLN := Lib.hid (fun k i => stG_len (d := e.drop) (HL.out _ (Below.refl _ _)).len k i)
  go_loopw [12] (fun i wr => ∃ (k : Nat) (u : Nat → Value), k ≤ 4 ∧ i = .int .i64 (k : Int) ∧ Hid (LvS (bo + 1) bo e.next e.seq e.log (stG e.drop l.t k 0) u wr) ∧ Below wo.heap.size wo wr) (fun i _ => 4 - (intOf i).toNat)
  case atStart => exact ⟨0, _, Nat.zero_le _, rfl, hS0, hBS⟩
  case round =>
    obtain ⟨k, u, hk, rfl, HS, hB5⟩ := hrel
    obtain ⟨wk, rfl⟩ : ∃ wk : World, wk = wr := ⟨_, rfl⟩
    clear hS0 hBS
    by_cases hlt : k < 4
    · have hi1 : (k : Int) < 4 := by omega
      have hi2 : (0 : Int) ≤ (k : Int) ∧ (k : Int) < 4 := by omega
      have hT := (HL.out _ (Below.refl _ _)).lev hlt
      have hlk := getD_le (HL.out _ (Below.refl _ _)).len k
      obtain ⟨a, cap, b, off, hv, ha, hc⟩ := hT
      have HC := Lib.hid hc
      have HNX := Lib.hid (stG_next e.drop l.t k)
      clear hc
      go_wp2_with fail
      go_loopw [13] (fun i wr => ∃ (q : Nat) (u : Nat → Value), q ≤ (l.t.getD k []).length ∧ i = .int .i64 (q : Int) ∧ Hid (LvS (bo + 1) bo e.next e.seq e.log (stG e.drop l.t k q) u wr) ∧ Below wo.heap.size wo wr) (fun i _ => (l.t.getD k []).length - (intOf i).toNat)
      case atStart => exact ⟨0, _, Nat.zero_le _, rfl, HS, hB5⟩
      case round =>
        clear HS hB5
        obtain ⟨q, u, hq, rfl, HS, hB5⟩ := hrel
        obtain ⟨wi, rfl⟩ : ∃ wi : World, wi = wr := ⟨_, rfl⟩
        have b6 := HB4.out.trans (hB5.mono HB4.out.size)
        have x5 := HX4.out.below hB5
        have ck := box_lev x5 hlt
        rw [hv] at ck
        by_cases hq2 : q < (l.t.getD k []).length
        · obtain ⟨rfl, hbl⟩ := ha (by omega)
          obtain ⟨g0, g1, g2, g3, g4, g5⟩ := (HC.out q hq2).below b6 hbl
          have hi3 : (0 : Int) ≤ (q : Int) ∧ (q : Int) < ((l.t.getD k []).length : Int) := by omega
          have y5 := HY4.out.below hB5
          have e4 := y5.cell 4
          simp at e4
          obtain ⟨d3, hd3⟩ : ∃ d3, decide ((l.t.getD k [])[q].num ∈ e.drop) = d3 := ⟨_, rfl⟩
          have HSK := Lib.hid (fun (h : d3 = true) => stG_skip (d := e.drop) (t := l.t) hq2 (by rw [h] at hd3; simpa using hd3))
          have HAD := Lib.hid (fun (h : d3 = false) => stG_add (d := e.drop) (t := l.t) hlt hq2 (by rw [h] at hd3; simpa using hd3))
          have HC3 := Lib.hid hd3
          have hlr : ((stG e.drop l.t k q).getD k []).length ≤ 1048576 := getD_le (HLN.out k q) k
          have hwb : b < wi.heap.size := by have := b6.size; omega
          clear hd3
          generalize (l.t.getD k [])[q] = x at *
          obtain ⟨xn, xl, xs, xc, xlo, xhi⟩ := x
          simp only at g0 g1 g2 g3 g4 g5 HC3 HAD
          go_upto_region 21 with fail
          go_cut [14] from 88 to 107 (fun r wx => r = .bool d3 ∧ Below wi.heap.size wi wx)
          case first =>
            go_region_with (go_at_call 32; with_reducible refine (HAM.out _ _ _ _ d3 (HDN.out _ b6.drew) (by omega) HC3.out).mono ?_; rintro r w7 ⟨rfl, hb7⟩)
            all_goals (try go_wp2_with fail)
            all_goals go_meet
            all_goals exact ⟨rfl, (Below.refl _ _).drew.trans hb7⟩
          case rest =>
            obtain ⟨rfl, hb7⟩ := hcut
            have hB7 := hB5.trans (hb7.mono hB5.size)
            have HS7 := Lib.hid (HS.out.below hb7)
            clear e4 ck x5 y5 HS
            cases d3 with
            | true =>
              have HS8 : Hid (LvS (bo + 1) bo e.next e.seq e.log (stG e.drop l.t k (q + 1)) u wc) := by rw [HSK.out rfl]; exact HS7
              clear HSK HAD HS7
              go_wp2_with fail
              go_roundw
              case rel => exact ⟨q + 1, u, by omega, by go_num, HS8, hB7⟩
              case measure => simp [intOf]; omega
            | false =>
              have HEQ := Lib.hid (HAD.out rfl)
              obtain ⟨ao, capo, huk, _⟩ := Sq.row_cases (HS7.out.row k hlt)
              have HROW := Lib.hid (HS7.out.row k hlt)
              have hul := HS7.out.lev hlt
              rw [huk] at hul HROW
              have hbox := HS7.out.box
              have HBX := Lib.hid hbox
              have HNR2 := Lib.hid (show (Value.slice ao ((stG e.drop l.t k q).getD k []).length capo).ownBlock ≠ some bo by rw [← huk]; exact hbox.not_row (by decide) (HS7.out.row k hlt))
              have HNR := Lib.hid (hbox.not_row (by decide) (HS7.out.row k hlt))
              have hboz := hbox.lt
              have b7 := HB4.out.trans (hB7.mono HB4.out.size)
              have x7 := HX4.out.below hB7
              have ck := box_lev x7 hlt
              rw [hv] at ck
              obtain ⟨g0, g1, g2, g3, g4, g5⟩ : TAt wc b (off + q * 6) ⟨xn, xl, xs, xc, xlo, xhi⟩ := TAt.below ⟨g0, g1, g2, g3, g4, g5⟩ hb7 hwb
              have HUK := Lib.hid huk
              have HBB := Lib.hid hB7
              have hwoz : bo ≤ wo.heap.size ∧ wo.heap.size ≤ bo := by rw [HBO.out]; omega
              have HKEY := Lib.hid (fun (gb cap8 : Nat) (w8 : World) h1 h2 h3 => LvS.grow (o := .cells #[.int .u64 xn, .int .i64 xl, .int .i64 xs, .int .i64 xc, .string (Cd.bs xlo), .string (Cd.bs xhi)] 38) (x := ⟨xn, xl, xs, xc, xlo, xhi⟩) (gb := gb) (cap8 := cap8) (H := wc.heap.size + 1) (w8 := w8) HS7.out hlt huk h1 h2 h3 (by omega))
              clear huk hbox b7 x7 HSK HAD HS7 hb7 hB5 b6 HC3
              generalize (stG e.drop l.t k q).getD k [] = R at *
              have hn1 : R.length + 1 ≤ maxLen := by unfold maxLen; omega
              have hn2 : (R.length + 1) * 64 ≤ 140737488355328 := by omega
              have hn3 : ∀ o, bo + 1 ≤ (wc.alloc o).drew.heap.size ∧ (wc.alloc o).drew.heap.size = wc.heap.size + 1 := fun o => by show _ ≤ (wc.alloc o).heap.size ∧ (wc.alloc o).heap.size = _; rw [World.size_alloc]; omega
              go_wp2_with fail
              refine wp_region_noPanic ?_
              go_region_law? (first
                | (refine step_append_lies _ (by rfl) _ _ _ (by rfl) (bo + 1) 38 i0 _ 6 64 Try.underlying24 hi hz0 hz1 hz2 rfl (by decide) (.slice ao R.length capo) R.length _ (by rfl) ((HROW.out.alloc _).drew) ⟨wc.heap.size, 0, none⟩ 1 1 [.int .u64 xn, .int .i64 xl, .int .i64 xs, .int .i64 xc, .string (Cd.bs xlo), .string (Cd.bs xhi)] (by rfl) (by rfl) (World.news_of_block (cs := #[.int .u64 xn, .int .i64 xl, .int .i64 xs, .int .i64 xc, .string (Cd.bs xlo), .string (Cd.bs xhi)]) (t := 38) (fr := (0, 0)) (heap_alloc_new wc _)) (tC_one ⟨xn, xl, xs, xc, xlo, xhi⟩) (by decide) hn1 hn2 (hn3 _).1 (wc.heap.size + 1) (hn3 _).2 ?_; intro gb cap8 w8 hown hgrow hat8 hlt8; have HS8 := Lib.hid (HKEY.out gb cap8 w8 hown hgrow hat8); have hob := ((HBX.out.alloc (.cells #[.int .u64 xn, .int .i64 xl, .int .i64 xs, .int .i64 xc, .string (Cd.bs xlo), .string (Cd.bs xhi)] 38)).drew.grown hgrow HNR2.out); have c8 := lev_box hob hlt; have f8 := hob.frozen (3 + k); have HB8 := Lib.hid ((HBB.out.alloc HBB.out.size (.cells #[.int .u64 xn, .int .i64 xl, .int .i64 xs, .int .i64 xc, .string (Cd.bs xlo), .string (Cd.bs xhi)] 38)).drew.grown hgrow (by have := HBB.out.size; have := (hn3 (.cells #[.int .u64 xn, .int .i64 xl, .int .i64 xs, .int .i64 xc, .string (Cd.bs xlo), .string (Cd.bs xhi)] 38)).2; omega) (fun r hr => by have := (Ob.row_lt HROW.out hr).1; omega)); clear hown hgrow hob))
              all_goals
                refine NoPanic.normal ?_
                go_wp2_with fail
                go_roundw
                case rel => exact ⟨q + 1, upd u k (.slice (some ⟨gb, 0, none⟩) (R.length + 1) cap8), by omega, by go_num, by rw [HEQ.out]; exact HS8, HB8.out.setCell (p := ⟨bo, 3 + k, none⟩) hwoz.2 _⟩
                case measure => simp [intOf]; omega
        · obtain rfl : q = (l.t.getD k []).length := by omega
          have HS2 : Hid (LvS (bo + 1) bo e.next e.seq e.log (stG e.drop l.t (k + 1) 0) u wi) := by rw [← HNX.out]; exact HS
          have hi3 : ¬ ((l.t.getD k []).length : Int) < ((l.t.getD k []).length : Int) := by omega
          clear HS HNX
          go_wp2_with fail
          go_roundw
          case rel => exact ⟨k + 1, u, by omega, by go_num, HS2, hB5⟩
          case measure => simp [intOf]; omega
    · obtain rfl : k = 4 := by omega
      have HS0 : Hid (LvS (bo + 1) bo e.next e.seq e.log (stay e.drop l.t) u wk) := by rw [← stG_end]; exact HS
      clear HS HLN HDN
      go_wp2_with fail
      exact HEX.out _ _ _ _ _ _ _ _ _ _ _ _ _ _ _ _ _ _ _ _ _ _ _ _ _ _ _ _ _ _ _ _ _ _ _ _ _ _ _ _ _ _ _ _ _ _ u HS0.out hB5
end Mf
end Go.Proofs.Ytpldfdlnhgmnaaa

/-
  The document's Apply: the inner loop of its third: does a table of the level overlap the new one?
-/
namespace Go.Proofs.Ytpldfdlnhgmnaaa
open Go.RowKit
set_option linter.unusedSimpArgs false
set_option linter.unusedVariables false
namespace Mf
open Op (bytesLess)
open Md10 (setCell_self)
set_option maxRecDepth 1000000 in
set_option maxHeartbeats 40000000 in
theorem app_over (R : Act → World → Prop) (X : Nat → Act → World → Prop) (t : List (List Tbl)) (u : Nat → Value) (n s g : Int) (br bo tb : Nat) (L : Nat) (xn xs xc : Int) (xlo xhi : List UInt8) (wc : World) {v0 v1 v2 v3 v5 v6 v7 v8 v9 v10 v12 v13 v14 v15 v17 v19 v20 v21 v22 v23 v24 v25 v26 v27 v28 v29 v30 v31 v32 v33 v34 v35 v36 v37 v38 v39 v40 v41 v42 v43 v44 v45 v46 v47 v48 v49 v50 v51 v52 v53 v54 v55 v56 v57 v58 v59 v60 v61 v62 v63 v64 v65 v66 v67 v68 v69 v70 v71 v72 v73 v74 v75 v76 v77 v78 v79 v80 v81 v82 v83 v84 v85 v86 v87 v88 v89 v90 v91 v92 v93 v94 v95 v96 v97 v98 v99 v100 v101 v102 v103 v104 v105 v106 v107 v108 v109 v110 v111 v112 v113 v114 v115 v116 v117 v118 v119 v120 v121 v122 v123 v124 v125 v126 v127 v128 v129 v130 v131 v132 v133 v134 v135 v136 v137 v138 v139 v140 v141 v142 v143 v144 v145 v146 v147 v148 v149 v150 v151 v152 v153 v154 v155 v156 v157 v158 v159 v160 v161 v162 v163 v164 v165 v166 v167 v168 v169 v170 v171 v172 v173 v174 v175 v176 v177 v178 v179 v180 v181 v182 v183 v184 v185 v186 v187 v188 v189 v190 v191 v192 v193 : Value}
    (hL4 : L < 4) (hlr : (t.getD L []).length ≤ 1048576) (HS7 : Hid (LvS (bo + 1) bo n s g t u wc)) (HT7 : Hid (Ob.Obj wc tb 38 [.int .u64 xn, .int .i64 (L : Int), .int .i64 xs, .int .i64 xc, .string (Cd.bs xlo), .string (Cd.bs xhi)])) (HZ7 : Hid (Ob.Obj wc br 27 [.int .u64 0, .int .u64 0, .int .u64 0, .slice none 0 0, .slice none 0 0, .slice none 0 0, .slice none 0 0]))
    (HRET : Hid (∀ (x0 x1 x2 x3 x6 x7 x8 x9 x10 x11 x12 x13 x14 x15 x16 x17 x18 x19 x20 x21 x22 x23 x24 x25 x26 x27 x28 x29 x30 x31 x32 x33 x34 x35 x36 x37 x38 x39 x40 x41 x42 x43 x44 x45 x46 x47 x48 x49 x50 x51 x52 x53 x54 x55 x56 x57 x58 x59 x60 x61 x62 x63 x64 x65 x66 x67 x68 x69 x70 x71 x72 x73 x74 x75 x76 x77 x78 x79 x80 x81 x82 x83 x84 x85 x86 x87 x88 x89 x90 x91 x92 x93 x94 x95 x96 x97 x98 x99 x100 x101 x102 x103 x104 x105 x106 x107 x108 x109 x110 x111 x112 x113 x114 x115 x116 x117 x118 x119 x120 x121 x122 x123 x124 x125 x126 x127 x128 x129 x130 x131 x132 x133 x134 x135 x136 x137 x138 x139 x140 x141 x142 x143 x144 x145 x146 x147 x148 x149 x150 x151 x152 x153 x154 x155 x156 x157 x158 x159 x160 x161 x162 x163 x164 x165 x166 x167 x168 x169 x170 x171 x172 x173 x174 x175 x176 x177 x178 x179 x180 x181 x182 x183 x184 x185 x186 x187 x188 x189 x190 x191 x192 x193 : Value) (W' : World) (k : Nat) (hk : k < (t.getD L []).length), Below wc.heap.size wc W' → 0 < L → over (t.getD L [])[k] ⟨xn, (L : Int), xs, xc, xlo, xhi⟩ = true → R ⟨#[x0, x1, x2, x3, .pointer (some ⟨br, 0, none⟩), .int .i64 3, x6, x7, x8, x9, x10, x11, x12, x13, x14, x15, x16, x17, x18, x19, x20, x21, x22, x23, x24, x25, x26, x27, x28, x29, x30, x31, x32, x33, x34, x35, x36, x37, x38, x39, x40, x41, x42, x43, x44, x45, x46, x47, x48, x49, x50, x51, x52, x53, x54, x55, x56, x57, x58, x59, x60, x61, x62, x63, x64, x65, x66, x67, x68, x69, x70, x71, x72, x73, x74, x75, x76, x77, x78, x79, x80, x81, x82, x83, x84, x85, x86, x87, x88, x89, x90, x91, x92, x93, x94, x95, x96, x97, x98, x99, x100, x101, x102, x103, x104, x105, x106, x107, x108, x109, x110, x111, x112, x113, x114, x115, x116, x117, x118, x119, x120, x121, x122, x123, x124, x125, x126, x127, x128, x129, x130, x131, x132, x133, x134, x135, x136, x137, x138, x139, x140, x141, x142, x143, x144, x145, x146, x147, x148, x149, x150, x151, x152, x153, x154, x155, x156, x157, x158, x159, x160, x161, x162, x163, x164, x165, x166, x167, x168, x169, x170, x171, x172, x173, x174, x175, x176, x177, x178, x179, x180, x181, x182, x183, x184, x185, x186, x187, x188, x189, x190, x191, x192, x193], []⟩ W'))
    (HEX : Hid (∀ (x5 x18 x19 x152 x153 x154 x155 x156 x157 x158 x159 x160 x161 x162 x163 x164 x165 x166 x167 x168 x169 x170 x171 x172 x173 x174 x175 x176 x177 x178 x179 x180 x181 : Value) (W' : World), Below wc.heap.size wc W' → (L = 0 ∨ ∀ y ∈ t.getD L [], over y ⟨xn, (L : Int), xs, xc, xlo, xhi⟩ = false) → X 8 ⟨#[v0, v1, v2, v3, .pointer (some ⟨br, 0, none⟩), x5, v6, v7, v8, v9, v10, .pointer (some ⟨bo, 0, none⟩), v12, v13, v14, v15, .pointer (some ⟨tb, 0, none⟩), v17, x18, x19, v20, v21, v22, v23, v24, v25, v26, v27, v28, v29, v30, v31, v32, v33, v34, v35, v36, v37, v38, v39, v40, v41, v42, v43, v44, v45, v46, v47, v48, v49, v50, v51, v52, v53, v54, v55, v56, v57, v58, v59, v60, v61, v62, v63, v64, v65, v66, v67, v68, v69, v70, v71, v72, v73, v74, v75, v76, v77, v78, v79, v80, v81, v82, v83, v84, v85, v86, v87, v88, v89, v90, v91, v92, v93, v94, v95, v96, v97, v98, v99, v100, v101, v102, v103, v104, v105, v106, v107, v108, v109, v110, v111, v112, v113, v114, v115, v116, v117, v118, v119, v120, v121, v122, v123, v124, v125, v126, v127, v128, v129, v130, v131, v132, v133, v134, v135, v136, v137, v138, v139, v140, v141, v142, v143, v144, v145, v146, v147, v148, v149, v150, v151, x152, x153, x154, x155, x156, x157, x158, x159, x160, x161, x162, x163, x164, x165, x166, x167, x168, x169, x170, x171, x172, x173, x174, x175, x176, x177, x178, x179, x180, x181, v182, v183, v184, v185, v186, v187, v188, v189, v190, v191, v192, v193], []⟩ W')) :
    Code.wp Try.prog (apInner 2 0) (Post R X) ⟨#[v0, v1, v2, v3, .pointer (some ⟨br, 0, none⟩), v5, v6, v7, v8, v9, v10, .pointer (some ⟨bo, 0, none⟩), v12, v13, v14, v15, .pointer (some ⟨tb, 0, none⟩), v17, .int .i64 0, v19, v20, v21, v22, v23, v24, v25, v26, v27, v28, v29, v30, v31, v32, v33, v34, v35, v36, v37, v38, v39, v40, v41, v42, v43, v44, v45, v46, v47, v48, v49, v50, v51, v52, v53, v54, v55, v56, v57, v58, v59, v60, v61, v62, v63, v64, v65, v66, v67, v68, v69, v70, v71, v72, v73, v74, v75, v76, v77, v78, v79, v80, v81, v82, v83, v84, v85, v86, v87, v88, v89, v90, v91, v92, v93, v94, v95, v96, v97, v98, v99, v100, v101, v102, v103, v104, v105, v106, v107, v108, v109, v110, v111, v112, v113, v114, v115, v116, v117, v118, v119, v120, v121, v122, v123, v124, v125, v126, v127, v128, v129, v130, v131, v132, v133, v134, v135, v136, v137, v138, v139, v140, v141, v142, v143, v144, v145, v146, v147, v148, v149, v150, v151, v152, v153, v154, v155, v156, v157, v158, v159, v160, v161, v162, v163, v164, v165, v166, v167, v168, v169, v170, v171, v172, v173, v174, v175, v176, v177, v178, v179, v180, v181, v182, v183, v184, v185, v186, v187, v188, v189, v190, v191, v192, v193], []⟩ wc := by
  dsimp only at HRET HEX ⊢
  conv => arg 2; whnf
  have HOVER := Lib.hid (fun (n l s c : Int) (xlo xhi lo hi : List UInt8) (W : World) => show Calls Try.prog 26 #[.agg #[.int .u64 n, .int .i64 l, .int .i64 s, .int .i64 c, .string (Cd.bs xlo), .string (Cd.bs xhi)], .string (Cd.bs lo), .string (Cd.bs hi)] W fun e w' => e = .returned (.bool (!bytesLess xhi lo && !bytesLess hi xlo)) ∧ Below W.heap.size W w' from overlapR_any ⟨n, l, s, c, xlo, xhi⟩ lo hi W)
  obtain ⟨ao, capo, huk, _⟩ := Sq.row_cases (HS7.out.row L hL4)
  have hrw := HS7.out.row L hL4
  obtain ⟨a', cap', rb, roff, hv, ha, hc⟩ := tbs_of_own hrw
  rw [huk] at hv
  injection hv with hv1 hv2 hv3
  subst hv1 hv3
  have HC := Lib.hid hc
  obtain ⟨nR, hnR⟩ : ∃ n, (t.getD L []).length = n := ⟨_, rfl⟩
  have hN1 : nR ≤ (t.getD L []).length := by omega
  have hN2 : (t.getD L []).length ≤ nR := by omega
  rw [hnR] at huk ha
  have HLB := Lib.hid (fun (W : World) (h : Below wc.heap.size wc W) => (lev_box (HS7.out.below h).box hL4).trans (by rw [huk]))
  have hxl : (0 : Int) ≤ (L : Int) ∧ (L : Int) < 4 := by omega
  clear hnR huk hrw hc
  go_loopw [18] (fun i wr => ∃ k : Nat, k ≤ nR ∧ i = .int .i64 (k : Int) ∧ Hid (∀ y ∈ (t.getD L []).take k, over y ⟨xn, (L : Int), xs, xc, xlo, xhi⟩ = false) ∧ Below wc.heap.size wc wr) (fun i _ => nR - (intOf i).toNat)
  case atStart => exact ⟨0, Nat.zero_le _, rfl, fun y hy => by simp at hy, Below.refl _ _⟩
  case round =>
    obtain ⟨k, hk, rfl, HNO, hB8⟩ := hrel
    obtain ⟨wk, rfl⟩ : ∃ wk : World, wk = wr := ⟨_, rfl⟩
    have t8 := HT7.out.below hB8
    have p1 := t8.cell 1
    have p4 := t8.cell 4
    have p5 := t8.cell 5
    simp at p1 p4 p5
    have c8 := HLB.out _ hB8
    by_cases hgo : k < nR ∧ 0 < L
    · obtain ⟨hkn, hL0⟩ := hgo
      have hkl : k < (t.getD L []).length := by omega
      obtain ⟨rfl, hrb⟩ := ha (by omega)
      obtain ⟨g0, g1, g2, g3, g4, g5⟩ := (HC.out k hkl).below hB8 hrb
      have hi3 : (0 : Int) ≤ (k : Int) ∧ (k : Int) < (nR : Int) := by omega
      have hi4 : (0 : Int) < (L : Int) := by omega
      have HR8 := Lib.hid (fun x0 x1 x2 x3 x6 x7 x8 x9 x10 x11 x12 x13 x14 x15 x16 x17 x18 x19 x20 x21 x22 x23 x24 x25 x26 x27 x28 x29 x30 x31 x32 x33 x34 x35 x36 x37 x38 x39 x40 x41 x42 x43 x44 x45 x46 x47 x48 x49 x50 x51 x52 x53 x54 x55 x56 x57 x58 x59 x60 x61 x62 x63 x64 x65 x66 x67 x68 x69 x70 x71 x72 x73 x74 x75 x76 x77 x78 x79 x80 x81 x82 x83 x84 x85 x86 x87 x88 x89 x90 x91 x92 x93 x94 x95 x96 x97 x98 x99 x100 x101 x102 x103 x104 x105 x106 x107 x108 x109 x110 x111 x112 x113 x114 x115 x116 x117 x118 x119 x120 x121 x122 x123 x124 x125 x126 x127 x128 x129 x130 x131 x132 x133 x134 x135 x136 x137 x138 x139 x140 x141 x142 x143 x144 x145 x146 x147 x148 x149 x150 x151 x152 x153 x154 x155 x156 x157 x158 x159 x160 x161 x162 x163 x164 x165 x166 x167 x168 x169 x170 x171 x172 x173 x174 x175 x176 x177 x178 x179 x180 x181 x182 x183 x184 x185 x186 x187 x188 x189 x190 x191 x192 x193 W' => HRET.out x0 x1 x2 x3 x6 x7 x8 x9 x10 x11 x12 x13 x14 x15 x16 x17 x18 x19 x20 x21 x22 x23 x24 x25 x26 x27 x28 x29 x30 x31 x32 x33 x34 x35 x36 x37 x38 x39 x40 x41 x42 x43 x44 x45 x46 x47 x48 x49 x50 x51 x52 x53 x54 x55 x56 x57 x58 x59 x60 x61 x62 x63 x64 x65 x66 x67 x68 x69 x70 x71 x72 x73 x74 x75 x76 x77 x78 x79 x80 x81 x82 x83 x84 x85 x86 x87 x88 x89 x90 x91 x92 x93 x94 x95 x96 x97 x98 x99 x100 x101 x102 x103 x104 x105 x106 x107 x108 x109 x110 x111 x112 x113 x114 x115 x116 x117 x118 x119 x120 x121 x122 x123 x124 x125 x126 x127 x128 x129 x130 x131 x132 x133 x134 x135 x136 x137 x138 x139 x140 x141 x142 x143 x144 x145 x146 x147 x148 x149 x150 x151 x152 x153 x154 x155 x156 x157 x158 x159 x160 x161 x162 x163 x164 x165 x166 x167 x168 x169 x170 x171 x172 x173 x174 x175 x176 x177 x178 x179 x180 x181 x182 x183 x184 x185 x186 x187 x188 x189 x190 x191 x192 x193 W' k hkl)
      have HTK := Lib.hid (List.take_succ_eq_append_getElem hkl)
      have hrz : rb < wk.heap.size := Nat.lt_of_lt_of_le hrb hB8.size
      generalize (t.getD L [])[k] = y at *
      obtain ⟨yn, yl, ys, yc, ylo, yhi⟩ := y
      simp only at g0 g1 g2 g3 g4 g5
      obtain ⟨d5, hd5⟩ : ∃ d5, (!bytesLess yhi xlo && !bytesLess xhi ylo) = d5 := ⟨_, rfl⟩
      have HV5 := Lib.hid (fun W => HOVER.out yn yl ys yc ylo yhi xlo xhi W)
      rw [hd5] at HV5
      have HD5 := Lib.hid hd5
      clear hd5
      go_upto_region 34 with fail
      go_cut [19] from 152 to 179 (fun r wx => r = .bool d5 ∧ Below wk.heap.size wk wx)
      case first =>
        go_region_with (go_at_call 26; (with_reducible refine (HV5.out _).mono ?_); rintro r w9 ⟨rfl, hb9⟩)
        all_goals (try go_wp2_with fail)
        all_goals go_meet
        all_goals exact ⟨rfl, (Below.refl _ _).drew.trans hb9⟩
      case rest =>
        obtain ⟨rfl, hb9⟩ := hcut
        have hB9 := hB8.trans (hb9.mono hB8.size)
        clear g0 g1 g2 g3 g4 g5 p1 p4 p5 c8 hi3
        cases d5 with
        | true =>
          have z9 := HZ7.out.below hB9
          have r0 := z9.cell 0; have f0 := z9.frozen 0; have r1 := z9.cell 1; have f1 := z9.frozen 1; have r2 := z9.cell 2; have f2 := z9.frozen 2; have r3 := z9.cell 3; have f3 := z9.frozen 3; have r4 := z9.cell 4; have f4 := z9.frozen 4; have r5 := z9.cell 5; have f5 := z9.frozen 5; have r6 := z9.cell 6; have f6 := z9.frozen 6; simp at r0 r1 r2 r3 r4 r5 r6
          go_wp2_with fail
          rw [setCell_self r0, setCell_self r1, setCell_self r2, setCell_self r3, setCell_self r4, setCell_self r5, setCell_self r6]
          exact HR8.out _ _ _ _ _ _ _ _ _ _ _ _ _ _ _ _ _ _ _ _ _ _ _ _ _ _ _ _ _ _ _ _ _ _ _ _ _ _ _ _ _ _ _ _ _ _ _ _ _ _ _ _ _ _ _ _ _ _ _ _ _ _ _ _ _ _ _ _ _ _ _ _ _ _ _ _ _ _ _ _ _ _ _ _ _ _ _ _ _ _ _ _ _ _ _ _ _ _ _ _ _ _ _ _ _ _ _ _ _ _ _ _ _ _ _ _ _ _ _ _ _ _ _ _ _ _ _ _ _ _ _ _ _ _ _ _ _ _ _ _ _ _ _ _ _ _ _ _ _ _ _ _ _ _ _ _ _ _ _ _ _ _ _ _ _ _ _ _ _ _ _ _ _ _ _ _ _ _ _ _ _ _ _ _ _ _ _ _ _ _ _ _ _ hB9 hL0 HD5.out
        | false =>
          have HNO2 : Hid (∀ y ∈ (t.getD L []).take (k + 1), over y ⟨xn, (L : Int), xs, xc, xlo, xhi⟩ = false) := fun y hy => by
            rw [HTK.out] at hy
            rcases List.mem_append.1 hy with hy | hy
            · exact HNO.out y hy
            · simp at hy; subst hy; exact HD5.out
          clear HNO HTK HD5 HR8
          go_wp2_with fail
          go_roundw
          case rel => exact ⟨k + 1, by omega, by go_num, HNO2, hB9⟩
          case measure => simp [intOf]; omega
    · have h3 : Hid (L = 0 ∨ ∀ y ∈ t.getD L [], over y ⟨xn, (L : Int), xs, xc, xlo, xhi⟩ = false) := by
        by_cases h0 : 0 < L
        · have : k = (t.getD L []).length := by omega
          have h5 := HNO.out
          rw [this, List.take_length] at h5
          exact .inr h5
        · exact .inl (by omega)
      have hdis : k < nR ∧ ¬ (0 : Int) < (L : Int) ∨ ¬ (k : Int) < (nR : Int) := by omega
      clear HNO hgo t8 HC ha
      rcases hdis with ⟨hkl, hi4⟩ | hkl
      all_goals
        try have hi5 : (k : Int) < (nR : Int) := by omega
        go_wp2_with fail
        exact HEX.out _ _ _ _ _ _ _ _ _ _ _ _ _ _ _ _ _ _ _ _ _ _ _ _ _ _ _ _ _ _ _ _ _ _ hB8 h3.out
end Mf
end Go.Proofs.Ytpldfdlnhgmnaaa

/-
  The document's Apply: the region in which the new table is put into its level.
-/
namespace Go.Proofs.Ytpldfdlnhgmnaaa
open Go.RowKit
set_option linter.unusedSimpArgs false
set_option linter.unusedVariables false
namespace Mf
open Op (bytesLess)
open Md10 (setCell_self)
/-- behind a region: it ends as ordinary code does -/
def PostN (E : Act → World → Prop) : Exit → Act → World → Prop
  | .normal, a, w => E a w
  | _, _, _ => False
theorem wp_postN {P : Program} {c : Code} {Q : Exit → Act → World → Prop} {a : Act} {w : World} (h : c.wp P (PostN (Q .normal)) a w) : c.wp P Q a w :=
  wp_mono h fun e a w h => by cases e <;> first | exact h | exact h.elim
/-- a region of a code, by its number -/
def regionOf (n : Nat) : Code → Option Code
  | .region i o d => bif Nat.beq i n then some (.region i o d) else none
  | .seq a b => match regionOf n a with
    | some c => some c
    | none => regionOf n b
  | .block _ c => regionOf n c
  | .scope c => regionOf n c
  | .loop c => regionOf n c
  | .cond _ a b => match regionOf n a with
    | some c => some c
    | none => regionOf n b
  | _ => none

noncomputable def apReg (n : Nat) : Code := ((Try.f10.body.bind (regionOf n)).getD .skip)

set_option maxRecDepth 1000000 in
set_option maxHeartbeats 40000000 in
theorem app_put (E : Act → World → Prop) (t : List (List Tbl)) (u : Nat → Value) (n s g : Int) (bo tb : Nat) (L : Nat) (xn xs xc : Int) (xlo xhi : List UInt8) (W' : World) {v0 v1 v2 v3 v4 v5 v6 v7 v8 v9 v10 v12 v13 v14 v15 v17 v18 v19 v20 v21 v22 v23 v24 v25 v26 v27 v28 v29 v30 v31 v32 v33 v34 v35 v36 v37 v38 v39 v40 v41 v42 v43 v44 v45 v46 v47 v48 v49 v50 v51 v52 v53 v54 v55 v56 v57 v58 v59 v60 v61 v62 v63 v64 v65 v66 v67 v68 v69 v70 v71 v72 v73 v74 v75 v76 v77 v78 v79 v80 v81 v82 v83 v84 v85 v86 v87 v88 v89 v90 v91 v92 v93 v94 v95 v96 v97 v98 v99 v100 v101 v102 v103 v104 v105 v106 v107 v108 v109 v110 v111 v112 v113 v114 v115 v116 v117 v118 v119 v120 v121 v122 v123 v124 v125 v126 v127 v128 v129 v130 v131 v132 v133 v134 v135 v136 v137 v138 v139 v140 v141 v142 v143 v144 v145 v146 v147 v148 v149 v150 v151 v152 v153 v154 v155 v156 v157 v158 v159 v160 v161 v162 v163 v164 v165 v166 v167 v168 v169 v170 v171 v172 v173 v174 v175 v176 v177 v178 v179 v180 v181 v182 v183 v184 v185 v186 v187 v188 v189 v190 v191 v192 v193 : Value}
    (hL4 : L < 4) (hlr : (t.getD L []).length ≤ 1048576) (HIN : Hid (TblIn ⟨xn, (L : Int), xs, xc, xlo, xhi⟩)) (HS8 : Hid (LvS (bo + 1) bo n s g t u W')) (HT8 : Hid (Ob.Obj W' tb 38 [.int .u64 xn, .int .i64 (L : Int), .int .i64 xs, .int .i64 xc, .string (Cd.bs xlo), .string (Cd.bs xhi)]))
    (HEX : Hid (∀ (x182 x183 x184 x185 x186 x187 x188 x189 x190 x191 x192 : Value) (vv : Value) (w9 : World), w9.ownsRow W'.heap.size 38 6 vv (putP (t.getD L []) ⟨xn, (L : Int), xs, xc, xlo, xhi⟩).length (tcs (putP (t.getD L []) ⟨xn, (L : Int), xs, xc, xlo, xhi⟩)) → Below W'.heap.size W' w9 → E ⟨#[v0, v1, v2, v3, v4, v5, v6, v7, v8, v9, v10, .pointer (some ⟨bo, 0, none⟩), v12, v13, v14, v15, .pointer (some ⟨tb, 0, none⟩), v17, v18, v19, v20, v21, v22, v23, v24, v25, v26, v27, v28, v29, v30, v31, v32, v33, v34, v35, v36, v37, v38, v39, v40, v41, v42, v43, v44, v45, v46, v47, v48, v49, v50, v51, v52, v53, v54, v55, v56, v57, v58, v59, v60, v61, v62, v63, v64, v65, v66, v67, v68, v69, v70, v71, v72, v73, v74, v75, v76, v77, v78, v79, v80, v81, v82, v83, v84, v85, v86, v87, v88, v89, v90, v91, v92, v93, v94, v95, v96, v97, v98, v99, v100, v101, v102, v103, v104, v105, v106, v107, v108, v109, v110, v111, v112, v113, v114, v115, v116, v117, v118, v119, v120, v121, v122, v123, v124, v125, v126, v127, v128, v129, v130, v131, v132, v133, v134, v135, v136, v137, v138, v139, v140, v141, v142, v143, v144, v145, v146, v147, v148, v149, v150, v151, v152, v153, v154, v155, v156, v157, v158, v159, v160, v161, v162, v163, v164, v165, v166, v167, v168, v169, v170, v171, v172, v173, v174, v175, v176, v177, v178, v179, v180, v181, x182, x183, x184, x185, x186, x187, x188, x189, x190, x191, x192, v193], []⟩ (w9.setCell ⟨bo, 3 + L, none⟩ vv))) :
    Code.wp Try.prog (apReg 37) (PostN E) ⟨#[v0, v1, v2, v3, v4, v5, v6, v7, v8, v9, v10, .pointer (some ⟨bo, 0, none⟩), v12, v13, v14, v15, .pointer (some ⟨tb, 0, none⟩), v17, v18, v19, v20, v21, v22, v23, v24, v25, v26, v27, v28, v29, v30, v31, v32, v33, v34, v35, v36, v37, v38, v39, v40, v41, v42, v43, v44, v45, v46, v47, v48, v49, v50, v51, v52, v53, v54, v55, v56, v57, v58, v59, v60, v61, v62, v63, v64, v65, v66, v67, v68, v69, v70, v71, v72, v73, v74, v75, v76, v77, v78, v79, v80, v81, v82, v83, v84, v85, v86, v87, v88, v89, v90, v91, v92, v93, v94, v95, v96, v97, v98, v99, v100, v101, v102, v103, v104, v105, v106, v107, v108, v109, v110, v111, v112, v113, v114, v115, v116, v117, v118, v119, v120, v121, v122, v123, v124, v125, v126, v127, v128, v129, v130, v131, v132, v133, v134, v135, v136, v137, v138, v139, v140, v141, v142, v143, v144, v145, v146, v147, v148, v149, v150, v151, v152, v153, v154, v155, v156, v157, v158, v159, v160, v161, v162, v163, v164, v165, v166, v167, v168, v169, v170, v171, v172, v173, v174, v175, v176, v177, v178, v179, v180, v181, v182, v183, v184, v185, v186, v187, v188, v189, v190, v191, v192, v193], []⟩ W' := by
  dsimp only at HEX ⊢
  conv => arg 2; whnf
  have HPUT := Lib.hid (fun (B0 : Nat) (u : Value) (hO : W'.drew.ownsRow B0 38 6 u (t.getD L []).length (tcs (t.getD L []))) => show Calls Try.prog 33 #[u, .agg #[.int .u64 xn, .int .i64 (L : Int), .int .i64 xs, .int .i64 xc, .string (Cd.bs xlo), .string (Cd.bs xhi)]] W'.drew fun e w' => ∃ v, e = .returned v ∧ w'.ownsRow W'.heap.size 38 6 v (putP (t.getD L []) ⟨xn, (L : Int), xs, xc, xlo, xhi⟩).length (tcs (putP (t.getD L []) ⟨xn, (L : Int), xs, xc, xlo, xhi⟩)) ∧ Below W'.heap.size W' w' from (putR_any B0 u (t.getD L []) ⟨xn, (L : Int), xs, xc, xlo, xhi⟩ _ hO hlr HIN.out (by show (0 : Int) ≤ (L : Int); omega)).mono fun e w' ⟨v, h1, h2, h3⟩ => ⟨v, h1, h2, (Below.refl _ _).drew.trans h3⟩)
  obtain ⟨ao, capo, huk, _⟩ := Sq.row_cases (HS8.out.row L hL4)
  obtain ⟨nR, hnR⟩ : ∃ n, (t.getD L []).length = n := ⟨_, rfl⟩
  rw [hnR] at huk
  have HROW8 := Lib.hid (show W'.drew.ownsRow (bo + 1) 38 6 (.slice ao nR capo) (t.getD L []).length (tcs (t.getD L [])) by have := HS8.out.row L hL4; rw [huk] at this; exact this.drew)
  have HP := Lib.hid (HPUT.out _ _ HROW8.out)
  have HBX8 := Lib.hid HS8.out.box
  have c8 : W'.cell? ⟨bo, 3 + L, none⟩ = some (.slice ao nR capo) := (lev_box HS8.out.box hL4).trans (by rw [huk])
  have HLB := Lib.hid (fun (W : World) (h : Below W'.heap.size W' W) => (lev_box (HS8.out.below h).box hL4).trans (show some (u L) = some (.slice ao nR capo) by rw [huk]))
  have p0 := HT8.out.cell 0
  have p1 := HT8.out.cell 1
  have p2 := HT8.out.cell 2
  have p3 := HT8.out.cell 3
  have p4 := HT8.out.cell 4
  have p5 := HT8.out.cell 5
  simp at p0 p1 p2 p3 p4 p5
  have hxl : (0 : Int) ≤ (L : Int) ∧ (L : Int) < 4 := by omega
  clear hnR huk HPUT HROW8 HIN hlr
  generalize putP (t.getD L []) ⟨xn, (L : Int), xs, xc, xlo, xhi⟩ = M at *
  refine wp_region_noPanic ?_
  go_region_law (go_simp; go_at_call 33; (with_reducible refine HP.out.mono ?_); rintro r w9 ⟨v9, rfl, hown9, hb9⟩; obtain ⟨a9, cap9, rfl, hg9⟩ := Sq.row_cases hown9; have c9 := HLB.out _ hb9; have f9 := (HBX8.out.below hb9).frozen (3 + L); have q9 : w9.cell? ⟨tb, 1, none⟩ = some (.int .i64 (L : Int)) := (HT8.out.below hb9).cell 1; have HO9 := Lib.hid hown9; have HB9 := Lib.hid hb9; clear hown9 hb9 hg9)
  all_goals (refine NoPanic.normal ?_)
  all_goals (try dsimp only [PostN])
  all_goals exact HEX.out _ _ _ _ _ _ _ _ _ _ _ _ _ HO9.out HB9.out
end Mf
end Go.Proofs.Ytpldfdlnhgmnaaa

/-
  The document's Apply: its third loop: the adds.
-/
namespace Go.Proofs.Ytpldfdlnhgmnaaa
open Go.RowKit
set_option linter.unusedSimpArgs false
set_option linter.unusedVariables false
namespace Mf
open Op (bytesLess)
open Md10 (setCell_self)
set_option maxRecDepth 1000000 in
set_option maxHeartbeats 40000000 in
theorem app_adds (R : Act → World → Prop) (X : Nat → Act → World → Prop) (e : Ed) (t0 : List (List Tbl)) (be br bo : Nat) (aa : Option Addr) (ac ab aof : Nat) (da : Option Addr) (dc : Nat) (u : Nat → Value) (w wo wS : World) {v0 v1 v2 v5 v6 v7 v8 v9 v10 v12 v13 v14 v16 v17 v18 v19 v20 v21 v22 v23 v24 v25 v26 v27 v28 v29 v30 v31 v32 v33 v34 v35 v36 v37 v38 v39 v40 v41 v42 v43 v44 v45 v46 v47 v48 v49 v50 v51 v52 v53 v54 v55 v56 v57 v58 v59 v60 v61 v62 v63 v64 v65 v66 v67 v68 v69 v70 v71 v72 v73 v74 v75 v76 v77 v78 v79 v80 v81 v82 v83 v84 v85 v86 v87 v88 v89 v90 v91 v92 v93 v94 v95 v96 v97 v98 v99 v100 v101 v102 v103 v104 v105 v106 v107 v108 v109 v110 v111 v112 v113 v114 v115 v116 v117 v118 v119 v120 v121 v122 v123 v124 v125 v126 v127 v128 v129 v130 v131 v132 v133 v134 v135 v136 v137 v138 v139 v140 v141 v142 v143 v144 v145 v146 v147 v148 v149 v150 v151 v152 v153 v154 v155 v156 v157 v158 v159 v160 v161 v162 v163 v164 v165 v166 v167 v168 v169 v170 v171 v172 v173 v174 v175 v176 v177 v178 v179 v180 v181 v182 v183 v184 v185 v186 v187 v188 v189 v190 v191 v192 v193 : Value}
    (HAC : Hid (∀ j (h : j < e.add.length), TAt w ab (aof + j * 6) e.add[j])) (haa : 0 < e.add.length → aa = some ⟨ab, aof, none⟩ ∧ ab < w.heap.size) (hmany : e.add.length ≤ 1048576)
    (HEA : Hid (∀ x ∈ e.add, TblIn x)) (HMM : Hid (mayE e = true))
    (HAM : Hid (∀ (v : Value) (l : List Int) (n : Int) (W : World) (b : Bool), Ns W.heap.size W v l → l.length ≤ 4611686018427387904 → decide (n ∈ l) = b → Calls Try.prog 32 #[v, .int .u64 n] W fun e w' => e = .returned (.bool b) ∧ Below W.heap.size W w'))
    (HY4 : Hid (Ob.Obj wo be 30 [.int .u64 e.next, .int .u64 e.seq, .int .u64 e.log, .slice aa e.add.length ac, .slice da e.drop.length dc])) (HZ4 : Hid (Ob.Obj wo br 27 [.int .u64 0, .int .u64 0, .int .u64 0, .slice none 0 0, .slice none 0 0, .slice none 0 0, .slice none 0 0])) (HB4 : Hid (Below w.heap.size w wo)) (HBO : Hid (wo.heap.size = bo))
    (hS0 : Hid (LvS (bo + 1) bo e.next e.seq e.log t0 u wS)) (hBS : Below wo.heap.size wo wS) (HLM : Hid (∀ k, (t0.getD k []).length + e.add.length ≤ 1048576))
    (HRET : Hid (∀ (x0 x1 x2 x3 x6 x7 x8 x9 x10 x11 x12 x13 x14 x15 x16 x17 x18 x19 x20 x21 x22 x23 x24 x25 x26 x27 x28 x29 x30 x31 x32 x33 x34 x35 x36 x37 x38 x39 x40 x41 x42 x43 x44 x45 x46 x47 x48 x49 x50 x51 x52 x53 x54 x55 x56 x57 x58 x59 x60 x61 x62 x63 x64 x65 x66 x67 x68 x69 x70 x71 x72 x73 x74 x75 x76 x77 x78 x79 x80 x81 x82 x83 x84 x85 x86 x87 x88 x89 x90 x91 x92 x93 x94 x95 x96 x97 x98 x99 x100 x101 x102 x103 x104 x105 x106 x107 x108 x109 x110 x111 x112 x113 x114 x115 x116 x117 x118 x119 x120 x121 x122 x123 x124 x125 x126 x127 x128 x129 x130 x131 x132 x133 x134 x135 x136 x137 x138 x139 x140 x141 x142 x143 x144 x145 x146 x147 x148 x149 x150 x151 x152 x153 x154 x155 x156 x157 x158 x159 x160 x161 x162 x163 x164 x165 x166 x167 x168 x169 x170 x171 x172 x173 x174 x175 x176 x177 x178 x179 x180 x181 x182 x183 x184 x185 x186 x187 x188 x189 x190 x191 x192 x193 : Value) (W' : World), Below wo.heap.size wo W' → addAll e.next e.add t0 = none → R ⟨#[x0, x1, x2, x3, .pointer (some ⟨br, 0, none⟩), .int .i64 3, x6, x7, x8, x9, x10, x11, x12, x13, x14, x15, x16, x17, x18, x19, x20, x21, x22, x23, x24, x25, x26, x27, x28, x29, x30, x31, x32, x33, x34, x35, x36, x37, x38, x39, x40, x41, x42, x43, x44, x45, x46, x47, x48, x49, x50, x51, x52, x53, x54, x55, x56, x57, x58, x59, x60, x61, x62, x63, x64, x65, x66, x67, x68, x69, x70, x71, x72, x73, x74, x75, x76, x77, x78, x79, x80, x81, x82, x83, x84, x85, x86, x87, x88, x89, x90, x91, x92, x93, x94, x95, x96, x97, x98, x99, x100, x101, x102, x103, x104, x105, x106, x107, x108, x109, x110, x111, x112, x113, x114, x115, x116, x117, x118, x119, x120, x121, x122, x123, x124, x125, x126, x127, x128, x129, x130, x131, x132, x133, x134, x135, x136, x137, x138, x139, x140, x141, x142, x143, x144, x145, x146, x147, x148, x149, x150, x151, x152, x153, x154, x155, x156, x157, x158, x159, x160, x161, x162, x163, x164, x165, x166, x167, x168, x169, x170, x171, x172, x173, x174, x175, x176, x177, x178, x179, x180, x181, x182, x183, x184, x185, x186, x187, x188, x189, x190, x191, x192, x193], []⟩ W'))
    (HEX : Hid (∀ (x5 x15 x16 x17 x18 x19 x126 x127 x128 x129 x130 x131 x132 x133 x134 x135 x136 x137 x138 x139 x140 x141 x142 x143 x144 x145 x146 x147 x148 x149 x150 x151 x152 x153 x154 x155 x156 x157 x158 x159 x160 x161 x162 x163 x164 x165 x166 x167 x168 x169 x170 x171 x172 x173 x174 x175 x176 x177 x178 x179 x180 x181 x182 x183 x184 x185 x186 x187 x188 x189 x190 x191 x192 : Value) (W' : World) (t : List (List Tbl)) (u : Nat → Value), LvS (bo + 1) bo e.next e.seq e.log t u W' → Below wo.heap.size wo W' → addAll e.next e.add t0 = some t → X 6 ⟨#[v0, v1, v2, .pointer (some ⟨be, 0, none⟩), .pointer (some ⟨br, 0, none⟩), x5, v6, v7, v8, v9, v10, .pointer (some ⟨bo, 0, none⟩), v12, v13, v14, x15, x16, x17, x18, x19, v20, v21, v22, v23, v24, v25, v26, v27, v28, v29, v30, v31, v32, v33, v34, v35, v36, v37, v38, v39, v40, v41, v42, v43, v44, v45, v46, v47, v48, v49, v50, v51, v52, v53, v54, v55, v56, v57, v58, v59, v60, v61, v62, v63, v64, v65, v66, v67, v68, v69, v70, v71, v72, v73, v74, v75, v76, v77, v78, v79, v80, v81, v82, v83, v84, v85, v86, v87, v88, v89, v90, v91, v92, v93, v94, v95, v96, v97, v98, v99, v100, v101, v102, v103, v104, v105, v106, v107, v108, v109, v110, v111, v112, v113, v114, v115, v116, v117, v118, v119, v120, v121, v122, v123, v124, v125, x126, x127, x128, x129, x130, x131, x132, x133, x134, x135, x136, x137, x138, x139, x140, x141, x142, x143, x144, x145, x146, x147, x148, x149, x150, x151, x152, x153, x154, x155, x156, x157, x158, x159, x160, x161, x162, x163, x164, x165, x166, x167, x168, x169, x170, x171, x172, x173, x174, x175, x176, x177, x178, x179, x180, x181, x182, x183, x184, x185, x186, x187, x188, x189, x190, x191, x192, v193], []⟩ W')) :
    Code.wp Try.prog (apLoop 2) (Post R X) ⟨#[v0, v1, v2, .pointer (some ⟨be, 0, none⟩), .pointer (some ⟨br, 0, none⟩), v5, v6, v7, v8, v9, v10, .pointer (some ⟨bo, 0, none⟩), v12, v13, v14, .int .i64 0, v16, v17, v18, v19, v20, v21, v22, v23, v24, v25, v26, v27, v28, v29, v30, v31, v32, v33, v34, v35, v36, v37, v38, v39, v40, v41, v42, v43, v44, v45, v46, v47, v48, v49, v50, v51, v52, v53, v54, v55, v56, v57, v58, v59, v60, v61, v62, v63, v64, v65, v66, v67, v68, v69, v70, v71, v72, v73, v74, v75, v76, v77, v78, v79, v80, v81, v82, v83, v84, v85, v86, v87, v88, v89, v90, v91, v92, v93, v94, v95, v96, v97, v98, v99, v100, v101, v102, v103, v104, v105, v106, v107, v108, v109, v110, v111, v112, v113, v114, v115, v116, v117, v118, v119, v120, v121, v122, v123, v124, v125, v126, v127, v128, v129, v130, v131, v132, v133, v134, v135, v136, v137, v138, v139, v140, v141, v142, v143, v144, v145, v146, v147, v148, v149, v150, v151, v152, v153, v154, v155, v156, v157, v158, v159, v160, v161, v162, v163, v164, v165, v166, v167, v168, v169, v170, v171, v172, v173, v174, v175, v176, v177, v178, v179, v180, v181, v182, v183, v184, v185, v186, v187, v188, v189, v190, v191, v192, v193], []⟩ wS := by
  dsimp only at HRET HEX ⊢
  conv => arg 2; whnf
  have HNUM := Lib.hid (fun (n s g : Int) (t : List (List Tbl)) (v0 v1 v2 v3 : Value) (W : World) (h : LvIn W.heap.size W ⟨n, s, g, t⟩ v0 v1 v2 v3) => show Calls Try.prog 31 #[.agg #[.int .u64 n, .int .u64 s, .int .u64 g, v0, v1, v2, v3]] W fun e w' => ∃ v, e = .returned v ∧ w'.ownsRow W.heap.size 23 1 v (numsT t 4).length (nC (numsT t 4)) ∧ Below W.heap.size W w' from numbersR_any ⟨n, s, g, t⟩ v0 v1 v2 v3 W h)
  have HPUT := Lib.hid (fun (B0 : Nat) (u : Value) (L : List Tbl) (n l s c : Int) (xlo xhi : List UInt8) (W : World) (hO : W.ownsRow B0 38 6 u L.length (tcs L)) (hLn : L.length ≤ 1048576) (hx : TblIn ⟨n, l, s, c, xlo, xhi⟩) (hx0 : 0 ≤ l) => show Calls Try.prog 33 #[u, .agg #[.int .u64 n, .int .i64 l, .int .i64 s, .int .i64 c, .string (Cd.bs xlo), .string (Cd.bs xhi)]] W fun e w' => ∃ v, e = .returned v ∧ w'.ownsRow W.heap.size 38 6 v (putP L ⟨n, l, s, c, xlo, xhi⟩).length (tcs (putP L ⟨n, l, s, c, xlo, xhi⟩)) ∧ Below W.heap.size W w' from putR_any B0 u L ⟨n, l, s, c, xlo, xhi⟩ W hO hLn hx hx0)
  have HAA : Hid (addAll e.next e.add t0 = addAll e.next (e.add.drop 0) t0 ∧ ∀ k, (t0.getD k []).length + (e.add.length - 0) ≤ 1048576) := ⟨rfl, HLM.out⟩
  clear HLM
  go_loopw [15] (fun i wr => ∃ (j : Nat) (t : List (List Tbl)) (u : Nat → Value), j ≤ e.add.length ∧ i = .int .i64 (j : Int) ∧ Hid (addAll e.next e.add t0 = addAll e.next (e.add.drop j) t ∧ ∀ k, (t.getD k []).length + (e.add.length - j) ≤ 1048576) ∧ Hid (LvS (bo + 1) bo e.next e.seq e.log t u wr) ∧ Below wo.heap.size wo wr) (fun i _ => e.add.length - (intOf i).toNat)
  case atStart => exact ⟨0, _, u, Nat.zero_le _, rfl, HAA, hS0, hBS⟩
  case round =>
    clear HAA hS0 hBS u
    obtain ⟨j, t, u, hj, rfl, HAA, HS, hB5⟩ := hrel
    obtain ⟨wj, rfl⟩ : ∃ wj : World, wj = wr := ⟨_, rfl⟩
    have b6 := HB4.out.trans (hB5.mono HB4.out.size)
    have y5 := HY4.out.below hB5
    have e3 := y5.cell 3
    simp at e3
    by_cases hlj : j < e.add.length
    · obtain ⟨rfl, habl⟩ := haa (by omega)
      obtain ⟨g0, g1, g2, g3, g4, g5⟩ := (HAC.out j hlj).below b6 habl
      have hi3 : (0 : Int) ≤ (j : Int) ∧ (j : Int) < (e.add.length : Int) := by omega
      have hmt := may_add HMM.out _ (List.getElem_mem hlj)
      obtain ⟨hv0, hv4⟩ := may_lev hmt
      have hin := HEA.out _ (List.getElem_mem hlj)
      have HDR := Lib.hid (List.drop_eq_getElem_cons hlj)
      generalize e.add[j] = x at *
      obtain ⟨xn, xl, xs, xc, xlo, xhi⟩ := x
      simp only at g0 g1 g2 g3 g4 g5 hv0 hv4
      obtain ⟨L, rfl⟩ : ∃ L : Nat, xl = (L : Int) := ⟨xl.toNat, by omega⟩
      have hL4 : L < 4 := by omega
      have HIN := Lib.hid hin
      have HONE := Lib.hid (show addAll e.next e.add t0 = (addOne e.next t ⟨xn, (L : Int), xs, xc, xlo, xhi⟩).bind (addAll e.next (e.add.drop (j + 1))) by rw [HAA.out.1, HDR.out]; rfl)
      have hbnd := HAA.out.2
      have HBND := Lib.hid hbnd
      clear hmt hin HDR HAA hbnd hv4 hv0
      obtain ⟨wT, hwT⟩ : ∃ wT, wj.alloc (.cells #[.int .u64 xn, .int .i64 (L : Int), .int .i64 xs, .int .i64 xc, .string (Cd.bs xlo), .string (Cd.bs xhi)] 38) = wT := ⟨_, rfl⟩
      obtain ⟨tb, htb⟩ : ∃ tb, wj.heap.size = tb := ⟨_, rfl⟩
      have tT : Ob.Obj wT tb 38 [.int .u64 xn, .int .i64 (L : Int), .int .i64 xs, .int .i64 xc, .string (Cd.bs xlo), .string (Cd.bs xhi)] := by rw [← hwT, ← htb]; exact Ob.Obj.new wj _ [.int .u64 xn, .int .i64 (L : Int), .int .i64 xs, .int .i64 xc, .string (Cd.bs xlo), .string (Cd.bs xhi)]
      have hjT : Below wj.heap.size wj wT := by rw [← hwT]; exact (Below.refl _ _).alloc (Nat.le_refl _) _
      go_upto_region 28 with fail
      try rw [hwT]
      try rw [htb]
      have hBT := hB5.trans (hjT.mono hB5.size)
      have hST := HS.out.below hjT
      have HST := Lib.hid hST
      have hlens : ∀ r ∈ t, r.length ≤ 1048576 := le_getD (fun k _ => by have := HBND.out k; omega)
      have HLEN := Lib.hid hlens
      have HLI := Lib.hid (show LvIn wT.drew.heap.size wT.drew ⟨e.next, e.seq, e.log, t⟩ (u 0) (u 1) (u 2) (u 3) from (hST.live hlens).drewd)
      have hnT := numsT_len t 1048576 hlens 4
      obtain ⟨d4, hd4⟩ : ∃ d4, decide (xn ∈ numsT t 4) = d4 := ⟨_, rfl⟩
      have HD4 := Lib.hid hd4
      have hbx := hST.box
      have o0 := hbx.cell 0
      have o1 := hbx.cell 1
      have o2 := hbx.cell 2
      have o3 := hbx.cell 3
      have o4 := hbx.cell 4
      have o5 := hbx.cell 5
      have o6 := hbx.cell 6
      have p0 := tT.cell 0
      simp at o0 o1 o2 o3 o4 o5 o6 p0
      have hboz := hbx.lt
      have htbz := tT.lt
      clear hwT hST hlens hd4 hbx g0 g1 g2 g3 g4 g5 y5 e3 hi3 HS hjT b6 hB5
      go_cut [17] from 126 to 142 (fun r wx => r = .bool d4 ∧ Below wT.heap.size wT wx)
      case first =>
        go_region_with (first
          | (go_at_call 31; (with_reducible refine (HNUM.out _ _ _ t _ _ _ _ _ HLI.out).mono ?_); rintro r w7 ⟨vn, rfl, hown7, hb7d⟩; have hb7 : Below wT.heap.size wT w7 := (by exact (Below.refl _ _).drew.trans hb7d); clear hb7d; have HNS := Lib.hid (ns_of_own hown7); obtain ⟨an, cn, rfl, _⟩ := Sq.row_cases hown7; clear hown7; have p7 := (hb7.cell (p := ⟨tb, 0, none⟩) htbz).trans p0)
          | (go_at_call 32; with_reducible refine (HAM.out _ (numsT t 4) _ _ d4 HNS.out (by omega) HD4.out).mono ?_; rintro r w8 ⟨rfl, hb8⟩))
        all_goals (try go_wp2_with fail)
        all_goals go_meet
        all_goals exact ⟨rfl, hb7.trans (hb8.mono hb7.size)⟩
      case rest =>
        obtain ⟨rfl, hb7⟩ := hcut
        have HS7 := Lib.hid (HST.out.below hb7)
        have hB7 := hBT.trans (hb7.mono hBT.size)
        have t7 := tT.below hb7
        have y7 := HY4.out.below hB7
        have z7 := HZ4.out.below hB7
        have HT7 := Lib.hid t7
        have HZ7 := Lib.hid z7
        have e0 := y7.cell 0
        have p0 := t7.cell 0
        simp at e0 p0
        clear o0 o1 o2 o3 o4 o5 o6 hnT HST hBT tT hb7 HLI
        by_cases hno : d4 = true ∨ e.next ≤ xn
        · have hn : Hid (addAll e.next e.add t0 = none) := by
            have : addOne e.next t ⟨xn, (L : Int), xs, xc, xlo, xhi⟩ = none := addOne_num (hno.imp (fun h => of_decide_eq_true (HD4.out.trans h)) id)
            show _ = none
            rw [HONE.out, this]
            rfl
          have r0 := z7.cell 0; have f0 := z7.frozen 0; have r1 := z7.cell 1; have f1 := z7.frozen 1; have r2 := z7.cell 2; have f2 := z7.frozen 2; have r3 := z7.cell 3; have f3 := z7.frozen 3; have r4 := z7.cell 4; have f4 := z7.frozen 4; have r5 := z7.cell 5; have f5 := z7.frozen 5; have r6 := z7.cell 6; have f6 := z7.frozen 6; simp at r0 r1 r2 r3 r4 r5 r6
          clear HONE HD4
          cases d4 with
          | true =>
            go_wp2_with fail
            rw [setCell_self r0, setCell_self r1, setCell_self r2, setCell_self r3, setCell_self r4, setCell_self r5, setCell_self r6]
            exact HRET.out _ _ _ _ _ _ _ _ _ _ _ _ _ _ _ _ _ _ _ _ _ _ _ _ _ _ _ _ _ _ _ _ _ _ _ _ _ _ _ _ _ _ _ _ _ _ _ _ _ _ _ _ _ _ _ _ _ _ _ _ _ _ _ _ _ _ _ _ _ _ _ _ _ _ _ _ _ _ _ _ _ _ _ _ _ _ _ _ _ _ _ _ _ _ _ _ _ _ _ _ _ _ _ _ _ _ _ _ _ _ _ _ _ _ _ _ _ _ _ _ _ _ _ _ _ _ _ _ _ _ _ _ _ _ _ _ _ _ _ _ _ _ _ _ _ _ _ _ _ _ _ _ _ _ _ _ _ _ _ _ _ _ _ _ _ _ _ _ _ _ _ _ _ _ _ _ _ _ _ _ _ _ _ _ _ _ _ _ _ _ _ _ _ hB7 hn.out
          | false =>
            have hnx : e.next ≤ xn := hno.resolve_left (by simp)
            go_wp2_with fail
            rw [setCell_self r0, setCell_self r1, setCell_self r2, setCell_self r3, setCell_self r4, setCell_self r5, setCell_self r6]
            exact HRET.out _ _ _ _ _ _ _ _ _ _ _ _ _ _ _ _ _ _ _ _ _ _ _ _ _ _ _ _ _ _ _ _ _ _ _ _ _ _ _ _ _ _ _ _ _ _ _ _ _ _ _ _ _ _ _ _ _ _ _ _ _ _ _ _ _ _ _ _ _ _ _ _ _ _ _ _ _ _ _ _ _ _ _ _ _ _ _ _ _ _ _ _ _ _ _ _ _ _ _ _ _ _ _ _ _ _ _ _ _ _ _ _ _ _ _ _ _ _ _ _ _ _ _ _ _ _ _ _ _ _ _ _ _ _ _ _ _ _ _ _ _ _ _ _ _ _ _ _ _ _ _ _ _ _ _ _ _ _ _ _ _ _ _ _ _ _ _ _ _ _ _ _ _ _ _ _ _ _ _ _ _ _ _ _ _ _ _ _ _ _ _ _ _ hB7 hn.out
        · obtain ⟨hd4, hnx⟩ : ¬ d4 = true ∧ ¬ e.next ≤ xn := ⟨fun h => hno (.inl h), fun h => hno (.inr h)⟩
          obtain rfl : d4 = false := by simpa using hd4
          have hnm : xn ∉ numsT t 4 := of_decide_eq_false HD4.out
          have HSOME := Lib.hid (show (L = 0 ∨ ∀ y ∈ t.getD L [], over y ⟨xn, (L : Int), xs, xc, xlo, xhi⟩ = false) → addOne e.next t ⟨xn, (L : Int), xs, xc, xlo, xhi⟩ = some (t.set L (putP (t.getD L []) ⟨xn, (L : Int), xs, xc, xlo, xhi⟩)) from fun h3 => addOne_some (next := e.next) (t := t) (x := ⟨xn, (L : Int), xs, xc, xlo, xhi⟩) hnm (by simp only; omega) (h3.imp (fun h => by simp only; omega) id))
          have HOV := Lib.hid (show ∀ (k : Nat) (hk : k < (t.getD L []).length), 0 < L → over (t.getD L [])[k] ⟨xn, (L : Int), xs, xc, xlo, xhi⟩ = true → addOne e.next t ⟨xn, (L : Int), xs, xc, xlo, xhi⟩ = none from fun k hk h0 ho => addOne_over (next := e.next) (t := t) (x := ⟨xn, (L : Int), xs, xc, xlo, xhi⟩) (by simp only; omega) (k := k) hk ho)
          have hlr : (t.getD L []).length ≤ 1048576 := getD_le HLEN.out L
          have hlr2 : (putP (t.getD L []) ⟨xn, (L : Int), xs, xc, xlo, xhi⟩).length + (e.add.length - (j + 1)) ≤ 1048576 := by rw [putP_len]; have := HBND.out L; omega
          have HLR2 := Lib.hid hlr2
          clear hno hd4 hnm hlr2 HLEN y7 t7 z7 HD4
          go_wp2_with fail
          clear e0 p0
          refine wp_post (app_over _ _ t u e.next e.seq e.log br bo tb L xn xs xc xlo xhi wc hL4 hlr HS7 HT7 HZ7 ?_ ?_)
          · intro x0 x1 x2 x3 x6 x7 x8 x9 x10 x11 x12 x13 x14 x15 x16 x17 x18 x19 x20 x21 x22 x23 x24 x25 x26 x27 x28 x29 x30 x31 x32 x33 x34 x35 x36 x37 x38 x39 x40 x41 x42 x43 x44 x45 x46 x47 x48 x49 x50 x51 x52 x53 x54 x55 x56 x57 x58 x59 x60 x61 x62 x63 x64 x65 x66 x67 x68 x69 x70 x71 x72 x73 x74 x75 x76 x77 x78 x79 x80 x81 x82 x83 x84 x85 x86 x87 x88 x89 x90 x91 x92 x93 x94 x95 x96 x97 x98 x99 x100 x101 x102 x103 x104 x105 x106 x107 x108 x109 x110 x111 x112 x113 x114 x115 x116 x117 x118 x119 x120 x121 x122 x123 x124 x125 x126 x127 x128 x129 x130 x131 x132 x133 x134 x135 x136 x137 x138 x139 x140 x141 x142 x143 x144 x145 x146 x147 x148 x149 x150 x151 x152 x153 x154 x155 x156 x157 x158 x159 x160 x161 x162 x163 x164 x165 x166 x167 x168 x169 x170 x171 x172 x173 x174 x175 x176 x177 x178 x179 x180 x181 x182 x183 x184 x185 x186 x187 x188 x189 x190 x191 x192 x193 W' k hk hB hL0 ho
            exact HRET.out _ _ _ _ _ _ _ _ _ _ _ _ _ _ _ _ _ _ _ _ _ _ _ _ _ _ _ _ _ _ _ _ _ _ _ _ _ _ _ _ _ _ _ _ _ _ _ _ _ _ _ _ _ _ _ _ _ _ _ _ _ _ _ _ _ _ _ _ _ _ _ _ _ _ _ _ _ _ _ _ _ _ _ _ _ _ _ _ _ _ _ _ _ _ _ _ _ _ _ _ _ _ _ _ _ _ _ _ _ _ _ _ _ _ _ _ _ _ _ _ _ _ _ _ _ _ _ _ _ _ _ _ _ _ _ _ _ _ _ _ _ _ _ _ _ _ _ _ _ _ _ _ _ _ _ _ _ _ _ _ _ _ _ _ _ _ _ _ _ _ _ _ _ _ _ _ _ _ _ _ _ _ _ _ _ _ _ _ _ _ _ _ _ (hB7.trans (hB.mono hB7.size)) (by rw [HONE.out, HOV.out k hk hL0 ho]; rfl)
          · intro x5 x18 x19 x152 x153 x154 x155 x156 x157 x158 x159 x160 x161 x162 x163 x164 x165 x166 x167 x168 x169 x170 x171 x172 x173 x174 x175 x176 x177 x178 x179 x180 x181 W' hB8 h3
            have HADD := Lib.hid (show addAll e.next e.add t0 = addAll e.next (e.add.drop (j + 1)) (t.set L (putP (t.getD L []) ⟨xn, (L : Int), xs, xc, xlo, xhi⟩)) by rw [HONE.out, HSOME.out h3]; rfl)
            have HLENS := Lib.hid (show ∀ k, ((t.set L (putP (t.getD L []) ⟨xn, (L : Int), xs, xc, xlo, xhi⟩)).getD k []).length + (e.add.length - (j + 1)) ≤ 1048576 from fun k => by
              rw [getD_set HS7.out.four hL4]
              split
              · exact HLR2.out
              · have := HBND.out k; omega)
            clear h3 HONE HSOME HOV HLR2 HBND
            have HT8 := Lib.hid (HT7.out.below hB8)
            have HS8 := Lib.hid (HS7.out.below hB8)
            have hB8z := hB7.trans (hB8.mono hB7.size)
            simp only [Exit.inBlock, Exit.then, if_true]
            go_upto_region 37 with fail
            refine wp_postN (app_put _ t u e.next e.seq e.log bo tb L xn xs xc xlo xhi W' hL4 hlr HIN HS8 HT8 ?_)
            intro x182 x183 x184 x185 x186 x187 x188 x189 x190 x191 x192 v9 w9 hown9 hb9w
            have hs9 := LvS.put (M := putP (t.getD L []) ⟨xn, (L : Int), xs, xc, xlo, xhi⟩) HS8.out hL4 (Sq.Kept.of_below hb9w) (lowerR hown9 (by have := HS8.out.box.lt; exact this)) (fun r hr => .inr (by have := (Ob.row_lt hown9 hr).1; exact this))
            have hb9 := (hB8z.trans (hb9w.mono hB8z.size)).setCell (p := ⟨bo, 3 + L, none⟩) (by show _ ≤ bo; rw [← HBO.out]; exact Nat.le_refl _) v9
            have HS9 := Lib.hid hs9
            obtain ⟨wn, hwn⟩ : ∃ wn, w9.setCell ⟨bo, 3 + L, none⟩ v9 = wn := ⟨_, rfl⟩
            rw [hwn] at HS9 hb9 ⊢
            clear hs9 hown9 hb9w hwn HS8 HT8 hB8z hB8 HS7 HT7 HZ7 hB7 HIN HNUM HPUT HAM HEA HAC HMM
            simp only [Exit.inBlock, Exit.then, if_true]
            go_wp2_with fail
            go_roundw
            case rel => exact ⟨j + 1, _, _, by omega, by go_num, ⟨HADD.out, HLENS.out⟩, HS9, hb9⟩
            case measure => simp [intOf]; omega
    · obtain rfl : j = e.add.length := by omega
      have hi3 : ¬ (e.add.length : Int) < (e.add.length : Int) := by omega
      have hAP : addAll e.next e.add t0 = some t := by rw [HAA.out.1, List.drop_length]; rfl
      have HAP := Lib.hid hAP
      clear hAP HAA
      go_wp2_with fail
      exact HEX.out _ _ _ _ _ _ _ _ _ _ _ _ _ _ _ _ _ _ _ _ _ _ _ _ _ _ _ _ _ _ _ _ _ _ _ _ _ _ _ _ _ _ _ _ _ _ _ _ _ _ _ _ _ _ _ _ _ _ _ _ _ _ _ _ _ _ _ _ _ _ _ _ _ _ t u HS.out hB5 HAP.out
end Mf
end Go.Proofs.Ytpldfdlnhgmnaaa

/-
  The document's answer of chapter 10: Apply.
-/
namespace Go.Proofs.Ytpldfdlnhgmnaaa
open Go.RowKit
set_option linter.unusedSimpArgs false
set_option linter.unusedVariables false
namespace Mf
open Op (bytesLess)
open Md10 (setCell_self)
set_option maxRecDepth 1000000 in
set_option maxHeartbeats 40000000 in
theorem applyR_any (l : Lv) (u0 u1 u2 u3 : Value) (e : Ed) (av dv : Value) (w : World) (hL : LvIn w.heap.size w l u0 u1 u2 u3) (hE : EdIn w.heap.size w e av dv) (hcap : DCap dv) (hM : ∀ r ∈ l.t, r.length + e.add.length ≤ 1048576) :
    Calls Try.prog 10 #[lvV l u0 u1 u2 u3, edV e av dv] w fun r w' => ∃ v : Nat → Value, r = .returned (.tuple #[lvV (appL l e) (v 0) (v 1) (v 2) (v 3), .int .i64 (appC l e)]) ∧ LvO w.heap.size (appL l e).t v w' ∧ Below w.heap.size w w' := by
  obtain ⟨i0, hi, hz0, hz1, hz2⟩ := info_parts info_Table10
  have HL := Lib.hid (fun W (h : Below w.heap.size w W) => hL.grow h h.size)
  have HE := Lib.hid (fun W (h : Below w.heap.size w W) => hE.at h)
  have HMAY := Lib.hid (fun W (h : Below w.heap.size w W) => show Calls Try.prog 30 #[.agg #[.int .u64 e.next, .int .u64 e.seq, .int .u64 e.log, av, dv]] W fun r w' => r = .returned (.bool (mayE e)) ∧ Below W.heap.size W w' from mayR10_any e av dv W (hE.at h))
  have HNUM := Lib.hid (fun (n s g : Int) (t : List (List Tbl)) (v0 v1 v2 v3 : Value) (W : World) (h : LvIn W.heap.size W ⟨n, s, g, t⟩ v0 v1 v2 v3) => show Calls Try.prog 31 #[.agg #[.int .u64 n, .int .u64 s, .int .u64 g, v0, v1, v2, v3]] W fun e w' => ∃ v, e = .returned v ∧ w'.ownsRow W.heap.size 23 1 v (numsT t 4).length (nC (numsT t 4)) ∧ Below W.heap.size W w' from numbersR_any ⟨n, s, g, t⟩ v0 v1 v2 v3 W h)
  have HM := Lib.hid hM
  have HARG := Lib.hid (fun h => app_arg (l := l) (e := e) h)
  have HFORM := Lib.hid (fun h h2 => app_form (l := l) (e := e) h h2)
  have HOK := Lib.hid (fun x h h2 => app_ok (l := l) (x := x) (e := e) h h2)
  obtain ⟨a0, n0, c0, rfl⟩ : ∃ a n c, u0 = .slice a n c := by obtain ⟨a, c, _, _, h, _⟩ := hL.r0; exact ⟨a, _, c, h⟩
  obtain ⟨a1, n1, c1, rfl⟩ : ∃ a n c, u1 = .slice a n c := by obtain ⟨a, c, _, _, h, _⟩ := hL.r1; exact ⟨a, _, c, h⟩
  obtain ⟨a2, n2, c2, rfl⟩ : ∃ a n c, u2 = .slice a n c := by obtain ⟨a, c, _, _, h, _⟩ := hL.r2; exact ⟨a, _, c, h⟩
  obtain ⟨a3, n3, c3, rfl⟩ : ∃ a n c, u3 = .slice a n c := by obtain ⟨a, c, _, _, h, _⟩ := hL.r3; exact ⟨a, _, c, h⟩
  obtain ⟨aa, ac, ab, aof, rfl, haa, hac⟩ := hE.add
  have HAC := Lib.hid hac
  have HEA := Lib.hid hE.each
  clear hac
  obtain ⟨da, dc, db, dof, rfl, hda, hdc⟩ := hE.drop
  have hdcap := hcap _ _ _ rfl
  have HDC := Lib.hid hdc
  have HDN := Lib.hid (fun W (h : Below w.heap.size w W) => (show Ns w.heap.size w (.slice da e.drop.length dc) e.drop from ⟨da, dc, db, dof, rfl, hda, hdc⟩).grow h h.size)
  have hfew := hE.few
  have HAM := Lib.hid (fun (v : Value) (l : List Int) (n : Int) (W : World) (b : Bool) (hV : Ns W.heap.size W v l) (hl : l.length ≤ 4611686018427387904) (hb : decide (n ∈ l) = b) => show Calls Try.prog 32 #[v, .int .u64 n] W fun e w' => e = .returned (.bool b) ∧ Below W.heap.size W w' from by rw [← hb]; exact amongR_any v l n W hV hl)
  clear hdc hcap
  obtain ⟨wA, hA⟩ : ∃ wA, w.alloc (.cells #[.int .u64 l.next, .int .u64 l.seq, .int .u64 l.log, .slice a0 n0 c0, .slice a1 n1 c1, .slice a2 n2 c2, .slice a3 n3 c3] 27) = wA := ⟨_, rfl⟩
  have bA : Below w.heap.size w wA := by rw [← hA]; exact (Below.refl _ _).alloc (Nat.le_refl _) _
  have xA : Ob.Obj wA w.heap.size 27 [.int .u64 l.next, .int .u64 l.seq, .int .u64 l.log, .slice a0 n0 c0, .slice a1 n1 c1, .slice a2 n2 c2, .slice a3 n3 c3] := by rw [← hA]; exact Ob.Obj.new w _ [.int .u64 l.next, .int .u64 l.seq, .int .u64 l.log, .slice a0 n0 c0, .slice a1 n1 c1, .slice a2 n2 c2, .slice a3 n3 c3]
  obtain ⟨be, hbe⟩ : ∃ j, wA.heap.size = j := ⟨_, rfl⟩
  obtain ⟨wB, hB⟩ : ∃ wB, wA.alloc (.cells #[.int .u64 e.next, .int .u64 e.seq, .int .u64 e.log, .slice aa e.add.length ac, .slice da e.drop.length dc] 30) = wB := ⟨_, rfl⟩
  have bB : Below w.heap.size w wB := by rw [← hB]; exact bA.alloc bA.size _
  have yB : Ob.Obj wB be 30 [.int .u64 e.next, .int .u64 e.seq, .int .u64 e.log, .slice aa e.add.length ac, .slice da e.drop.length dc] := by rw [← hB, ← hbe]; exact Ob.Obj.new wA _ [.int .u64 e.next, .int .u64 e.seq, .int .u64 e.log, .slice aa e.add.length ac, .slice da e.drop.length dc]
  have xB : Ob.Obj wB w.heap.size 27 [.int .u64 l.next, .int .u64 l.seq, .int .u64 l.log, .slice a0 n0 c0, .slice a1 n1 c1, .slice a2 n2 c2, .slice a3 n3 c3] := by rw [← hB]; exact xA.alloc _
  obtain ⟨br, hbr⟩ : ∃ j, wB.heap.size = j := ⟨_, rfl⟩
  obtain ⟨wC, hC⟩ : ∃ wC, wB.alloc (.cells #[.int .u64 0, .int .u64 0, .int .u64 0, .slice none 0 0, .slice none 0 0, .slice none 0 0, .slice none 0 0] 27) = wC := ⟨_, rfl⟩
  have bC : Below w.heap.size w wC := by rw [← hC]; exact bB.alloc bB.size _
  have yC : Ob.Obj wC be 30 [.int .u64 e.next, .int .u64 e.seq, .int .u64 e.log, .slice aa e.add.length ac, .slice da e.drop.length dc] := by rw [← hC]; exact yB.alloc _
  have xC : Ob.Obj wC w.heap.size 27 [.int .u64 l.next, .int .u64 l.seq, .int .u64 l.log, .slice a0 n0 c0, .slice a1 n1 c1, .slice a2 n2 c2, .slice a3 n3 c3] := by rw [← hC]; exact xB.alloc _
  have zC : Ob.Obj wC br 27 [.int .u64 0, .int .u64 0, .int .u64 0, .slice none 0 0, .slice none 0 0, .slice none 0 0, .slice none 0 0] := by rw [← hC, ← hbr]; exact Ob.Obj.new wB _ [.int .u64 0, .int .u64 0, .int .u64 0, .slice none 0 0, .slice none 0 0, .slice none 0 0, .slice none 0 0]
  have e0 := yC.cell 0
  have e1 := yC.cell 1
  have e2 := yC.cell 2
  have e3 := yC.cell 3
  have e4 := yC.cell 4
  simp at e0 e1 e2 e3 e4
  obtain ⟨m, hm⟩ : ∃ m, mayE e = m := ⟨_, rfl⟩
  rw [hm] at HMAY
  have HMM := Lib.hid hm
  have z0 := bC.size
  have hwr : w.heap.size ≤ br := by rw [← hbr]; exact bB.size
  have hbe1 := xA.lt
  have hbr1 := yB.lt
  rw [hbe] at hbe1
  rw [hbr] at hbr1
  clear hL hE hM bA xA bB yB xB hm
  unfold lvV edV
  go_enter Try.func10, Try.ntmps10
  go_upto_region 2 with (go_at_call 30; with_reducible refine (HMAY.out _ bC).mono ?_; rintro r w2 ⟨rfl, hb2⟩)
  clear hA hB hC e0 e1 e2 e3 e4 hbe hbr
  have b2 := bC.trans (hb2.mono bC.size)
  have y2 := yC.below hb2
  have x2 := xC.below hb2
  have z2 := zC.below hb2
  have e0 := y2.cell 0
  have e1 := y2.cell 1
  have e2 := y2.cell 2
  have e3 := y2.cell 3
  have e4 := y2.cell 4
  have l0 := x2.cell 0
  have l1 := x2.cell 1
  have l2 := x2.cell 2
  have l3 := x2.cell 3
  have l4 := x2.cell 4
  have l5 := x2.cell 5
  have l6 := x2.cell 6
  have r0 := z2.cell 0
  have r1 := z2.cell 1
  have r2 := z2.cell 2
  have r3 := z2.cell 3
  have r4 := z2.cell 4
  have r5 := z2.cell 5
  have r6 := z2.cell 6
  have f0 := z2.frozen 0
  have f1 := z2.frozen 1
  have f2 := z2.frozen 2
  have f3 := z2.frozen 3
  have f4 := z2.frozen 4
  have f5 := z2.frozen 5
  have f6 := z2.frozen 6
  simp at e0 e1 e2 e3 e4 l0 l1 l2 l3 l4 l5 l6 r0 r1 r2 r3 r4 r5 r6
  have hbrz := z2.lt
  clear yC xC zC hb2 bC
  cases m with
  | false =>
    clear e0 e1 e2 e3 e4 l0 l1 l2 l3 l4 l5 l6 HMAY HNUM
    have HCL := Lib.hid (HARG.out HMM.out)
    go_wp2_with fail
    rw [setCell_self r0, setCell_self r1, setCell_self r2, setCell_self r3, setCell_self r4, setCell_self r5, setCell_self r6]
    exact bodyPost_ret (v := .tuple #[.agg #[.int .u64 0, .int .u64 0, .int .u64 0, .slice none 0 0, .slice none 0 0, .slice none 0 0, .slice none 0 0], .int .i64 1]) (by simp [results, Try.results10, go_sem, r0, r1, r2, r3, r4, r5, r6]) rfl ⟨fun _ => .slice none 0 0, by rw [HCL.out.1, HCL.out.2]; rfl, by rw [HCL.out.2]; exact LvO.nil _ _, b2⟩
  | true =>
    have HMM := Lib.hid HMM.out
    obtain ⟨c, hcd⟩ : ∃ c, (decide (e.next < l.next) || decide (e.seq < l.seq) || decide (e.log < l.log)) = c := ⟨_, rfl⟩
    cases c with
    | true =>
      have hn : applyP l e = none := by unfold applyP; rw [if_pos]; simpa [or_assoc] using hcd
      have HCL := Lib.hid (HFORM.out HMM.out hn)
      clear e3 e4 l3 l4 l5 l6 HMAY HNUM hn
      go_wp2_with fail
      all_goals (first
        | (exfalso; simp at hcd; omega)
        | (rw [setCell_self r0, setCell_self r1, setCell_self r2, setCell_self r3, setCell_self r4, setCell_self r5, setCell_self r6]
           exact bodyPost_ret (v := .tuple #[.agg #[.int .u64 0, .int .u64 0, .int .u64 0, .slice none 0 0, .slice none 0 0, .slice none 0 0, .slice none 0 0], .int .i64 3]) (by simp [results, Try.results10, go_sem, r0, r1, r2, r3, r4, r5, r6]) rfl ⟨fun _ => .slice none 0 0, by rw [HCL.out.1, HCL.out.2]; rfl, by rw [HCL.out.2]; exact LvO.nil _ _, b2⟩))
    | false =>
      have HN := Lib.hid (show applyP l e = (if dropsOk (numsP l) e.drop = false then none else (addAll e.next e.add (stay e.drop l.t)).map fun t => ⟨e.next, e.seq, e.log, t⟩) by unfold applyP; rw [if_neg]; simp only [Bool.or_eq_false_iff, decide_eq_false_iff_not] at hcd; obtain ⟨⟨h1, h2⟩, h3⟩ := hcd; rintro (h | h | h); exact h1 h; exact h2 h; exact h3 h)
      obtain ⟨⟨q1, q2⟩, q3⟩ : (l.next ≤ e.next ∧ l.seq ≤ e.seq) ∧ l.log ≤ e.log := by simpa using hcd
      have hnl := numsT_len l.t 1048576 (HL.out _ (Below.refl _ _)).len 4
      have hnp : numsP l = numsT l.t 4 := rfl
      rw [hnp] at HN
      have HLL := Lib.hid (HL.out _ b2)
      clear hcd HMAY hnp r0 r1 r2 r3 r4 r5 r6 f0 f1 f2 f3 f4 f5 f6
      go_upto_region 8 with (go_at_call 31; with_reducible refine (HNUM.out _ _ _ l.t _ _ _ _ _ HLL.out).mono ?_; rintro r w3 ⟨vh, rfl, hown3, hb3⟩)
      have HV3 := Lib.hid (fun W (h : Below w3.heap.size w3 W) => (ns_of_own hown3).grow h h.size)
      obtain ⟨ah, ch, rfl, _⟩ := Sq.row_cases hown3
      have b3 := b2.trans (hb3.mono b2.size)
      have y3 := y2.below hb3
      have x3 := x2.below hb3
      have z3 := z2.below hb3
      clear e0 e1 e2 e3 e4 l0 l1 l2 l3 l4 l5 l6 y2 x2 z2 hown3 b2 HLL hb3 z0 hbe1 hbr1 hbrz
      generalize numsT l.t 4 = HD at *
      have HDC2 := Lib.hid (show ∀ j (h : j < e.drop.length), w.cell? ⟨db, dof + j, none⟩ = some (.int .u64 e.drop[j]) from HDC.out)
      refine wp_post (app_drops _ _ e HD w.heap.size be br aa ac da dc db dof ah ch w w3 y3 z3 b3 hda hdcap hfew HDC2 (by omega) HAM HV3 ?_ ?_)
      · intro x0 x1 x2 x3 x6 x7 x8 x9 x10 x11 x12 x13 x14 x15 x16 x17 x18 x19 x20 x21 x22 x23 x24 x25 x26 x27 x28 x29 x30 x31 x32 x33 x34 x35 x36 x37 x38 x39 x40 x41 x42 x43 x44 x45 x46 x47 x48 x49 x50 x51 x52 x53 x54 x55 x56 x57 x58 x59 x60 x61 x62 x63 x64 x65 x66 x67 x68 x69 x70 x71 x72 x73 x74 x75 x76 x77 x78 x79 x80 x81 x82 x83 x84 x85 x86 x87 x88 x89 x90 x91 x92 x93 x94 x95 x96 x97 x98 x99 x100 x101 x102 x103 x104 x105 x106 x107 x108 x109 x110 x111 x112 x113 x114 x115 x116 x117 x118 x119 x120 x121 x122 x123 x124 x125 x126 x127 x128 x129 x130 x131 x132 x133 x134 x135 x136 x137 x138 x139 x140 x141 x142 x143 x144 x145 x146 x147 x148 x149 x150 x151 x152 x153 x154 x155 x156 x157 x158 x159 x160 x161 x162 x163 x164 x165 x166 x167 x168 x169 x170 x171 x172 x173 x174 x175 x176 x177 x178 x179 x180 x181 x182 x183 x184 x185 x186 x187 x188 x189 x190 x191 x192 x193 W' q hB hq hf
        have HCL := Lib.hid (HFORM.out HMM.out (by rw [HN.out, if_pos (drops_bad hq hf)]))
        have z9 := z3.below hB
        have b9 := b3.trans (hB.mono b3.size)
        have r0 := z9.cell 0; have f0 := z9.frozen 0; have r1 := z9.cell 1; have f1 := z9.frozen 1; have r2 := z9.cell 2; have f2 := z9.frozen 2; have r3 := z9.cell 3; have f3 := z9.frozen 3; have r4 := z9.cell 4; have f4 := z9.frozen 4; have r5 := z9.cell 5; have f5 := z9.frozen 5; have r6 := z9.cell 6; have f6 := z9.frozen 6; simp at r0 r1 r2 r3 r4 r5 r6
        (try simp only [Exit.inBlock, Exit.then]); exact bodyPost_ret (v := .tuple #[.agg #[.int .u64 0, .int .u64 0, .int .u64 0, .slice none 0 0, .slice none 0 0, .slice none 0 0, .slice none 0 0], .int .i64 3]) (by simp [results, Try.results10, go_sem, r0, r1, r2, r3, r4, r5, r6]) rfl ⟨fun _ => .slice none 0 0, by rw [HCL.out.1, HCL.out.2]; rfl, by rw [HCL.out.2]; exact LvO.nil _ _, b9⟩
      · intro x5 x8 x9 x10 x47 x48 x49 x50 x51 x52 x53 x54 x55 x56 x57 x58 x59 x60 x61 x62 x63 x64 x65 x66 x67 x68 x69 x70 x71 x72 x73 x74 x75 x76 wo hB hall
        have HN2 := Lib.hid (show applyP l e = (addAll e.next e.add (stay e.drop l.t)).map fun t => ⟨e.next, e.seq, e.log, t⟩ by rw [HN.out, drops_all hall, if_neg (by simp)])
        have y4 := y3.below hB
        have z4 := z3.below hB
        have x4 := x3.below hB
        have b4 := b3.trans (hB.mono b3.size)
        have e0 := y4.cell 0
        have e1 := y4.cell 1
        have e2 := y4.cell 2
        simp at e0 e1 e2
        clear hB z3 y3 x3 b3 hall HN HDC HDC2 hda hdcap HV3 HNUM HARG
        simp only [Exit.inBlock, Exit.then, if_true]
        go_upto_region 15 with fail
        obtain ⟨bo, hbo⟩ : ∃ bo, wo.heap.size = bo := ⟨_, rfl⟩
        have hS0 := LvS.new (bo + 1) wo e.next e.seq e.log
        rw [← stG_zero e.drop l.t] at hS0
        obtain ⟨wS, hwS⟩ : ∃ wS, wo.alloc (.cells #[.int .u64 e.next, .int .u64 e.seq, .int .u64 e.log, .slice none 0 0, .slice none 0 0, .slice none 0 0, .slice none 0 0] 27) = wS := ⟨_, rfl⟩
        rw [hwS] at hS0 ⊢
        have hBS : Below wo.heap.size wo wS := by rw [← hwS]; exact (Below.refl _ _).alloc (Nat.le_refl _) _
        rw [hbo] at hS0 ⊢
        have HBO := Lib.hid hbo
        have hbrw2 : br < wo.heap.size := z4.lt
        clear hwS e0 e1 e2 hbo
        have HX4 := Lib.hid x4
        have HY4 := Lib.hid y4
        have HZ4 := Lib.hid z4
        have HB4 := Lib.hid b4
        have HS0 := Lib.hid hS0
        have HLM := Lib.hid (fun k => show ((stay e.drop l.t).getD k []).length + e.add.length ≤ 1048576 by
          rw [← stG_end]
          have h1 := stG_len (d := e.drop) (M := 1048576 - e.add.length) (fun r hr => by have := HM.out r hr; omega) 4 0
          have h2 := getD_le h1 k
          have h3 := (HE.out _ (Below.refl _ _)).many
          have h4 := HM.out (l.t.getD 0 []) (by
            have h5 := (HL.out _ (Below.refl _ _)).four
            rw [List.getD_eq_getElem?_getD, List.getElem?_eq_getElem (by omega), Option.getD_some]
            exact List.getElem_mem _)
          omega)
        have hmany := (HE.out _ (Below.refl _ _)).many
        clear x4 y4 z4 b4 hS0 HM HE
        go_wp2_with fail
        refine wp_post (app_stay _ _ l e w.heap.size be bo aa ac da dc a0 a1 a2 a3 n0 n1 n2 n3 c0 c1 c2 c3 _ w wo wS HL HDN hfew HAM HX4 HY4 HB4 HBO HS0 hBS ?_)
        intro x12 x13 x14 x84 x85 x86 x87 x88 x89 x90 x91 x92 x93 x94 x95 x96 x97 x98 x99 x100 x101 x102 x103 x104 x105 x106 x107 x108 x109 x110 x111 x112 x113 x114 x115 x116 x117 x118 x119 x120 x121 x122 x123 x124 x125 W2 u hS2 hB2
        have HS2 := Lib.hid hS2
        clear HS0 hBS hS2 HL HDN
        simp only [Exit.inBlock, Exit.then, if_true]
        go_wp2_with fail
        refine wp_post (app_adds _ _ e (stay e.drop l.t) be br bo aa ac ab aof da dc u w wo W2 HAC haa hmany HEA HMM HAM HY4 HZ4 HB4 HBO HS2 hB2 HLM ?_ ?_)
        · intro x0 x1 x2 x3 x6 x7 x8 x9 x10 x11 x12 x13 x14 x15 x16 x17 x18 x19 x20 x21 x22 x23 x24 x25 x26 x27 x28 x29 x30 x31 x32 x33 x34 x35 x36 x37 x38 x39 x40 x41 x42 x43 x44 x45 x46 x47 x48 x49 x50 x51 x52 x53 x54 x55 x56 x57 x58 x59 x60 x61 x62 x63 x64 x65 x66 x67 x68 x69 x70 x71 x72 x73 x74 x75 x76 x77 x78 x79 x80 x81 x82 x83 x84 x85 x86 x87 x88 x89 x90 x91 x92 x93 x94 x95 x96 x97 x98 x99 x100 x101 x102 x103 x104 x105 x106 x107 x108 x109 x110 x111 x112 x113 x114 x115 x116 x117 x118 x119 x120 x121 x122 x123 x124 x125 x126 x127 x128 x129 x130 x131 x132 x133 x134 x135 x136 x137 x138 x139 x140 x141 x142 x143 x144 x145 x146 x147 x148 x149 x150 x151 x152 x153 x154 x155 x156 x157 x158 x159 x160 x161 x162 x163 x164 x165 x166 x167 x168 x169 x170 x171 x172 x173 x174 x175 x176 x177 x178 x179 x180 x181 x182 x183 x184 x185 x186 x187 x188 x189 x190 x191 x192 x193 W' hB hn
          have HCL := Lib.hid (HFORM.out HMM.out (by rw [HN2.out, hn]; rfl))
          have z9 := HZ4.out.below hB
          have b9 := HB4.out.trans (hB.mono HB4.out.size)
          have r0 := z9.cell 0; have f0 := z9.frozen 0; have r1 := z9.cell 1; have f1 := z9.frozen 1; have r2 := z9.cell 2; have f2 := z9.frozen 2; have r3 := z9.cell 3; have f3 := z9.frozen 3; have r4 := z9.cell 4; have f4 := z9.frozen 4; have r5 := z9.cell 5; have f5 := z9.frozen 5; have r6 := z9.cell 6; have f6 := z9.frozen 6; simp at r0 r1 r2 r3 r4 r5 r6
          (try simp only [Exit.inBlock, Exit.then]); exact bodyPost_ret (v := .tuple #[.agg #[.int .u64 0, .int .u64 0, .int .u64 0, .slice none 0 0, .slice none 0 0, .slice none 0 0, .slice none 0 0], .int .i64 3]) (by simp [results, Try.results10, go_sem, r0, r1, r2, r3, r4, r5, r6]) rfl ⟨fun _ => .slice none 0 0, by rw [HCL.out.1, HCL.out.2]; rfl, by rw [HCL.out.2]; exact LvO.nil _ _, b9⟩
        · intro x5 x15 x16 x17 x18 x19 x126 x127 x128 x129 x130 x131 x132 x133 x134 x135 x136 x137 x138 x139 x140 x141 x142 x143 x144 x145 x146 x147 x148 x149 x150 x151 x152 x153 x154 x155 x156 x157 x158 x159 x160 x161 x162 x163 x164 x165 x166 x167 x168 x169 x170 x171 x172 x173 x174 x175 x176 x177 x178 x179 x180 x181 x182 x183 x184 x185 x186 x187 x188 x189 x190 x191 x192 W3 t u hS hB7 hA
          have hAP : applyP l e = some ⟨e.next, e.seq, e.log, t⟩ := by rw [HN2.out, hA]; rfl
          have HCL := Lib.hid (HOK.out _ HMM.out hAP)
          have HS := Lib.hid hS
          have b7 := HB4.out.trans (hB7.mono HB4.out.size)
          clear hAP hA hS HS2 hB2 HAC HEA HLM
          obtain ⟨m0, k0, d0, hu0, _⟩ : ∃ a n c, u 0 = .slice a n c ∧ True := by obtain ⟨a, c, h, _⟩ := Sq.row_cases (HS.out.row 0 (by omega)); exact ⟨a, _, c, h, trivial⟩
          obtain ⟨m1, k1, d1, hu1, _⟩ : ∃ a n c, u 1 = .slice a n c ∧ True := by obtain ⟨a, c, h, _⟩ := Sq.row_cases (HS.out.row 1 (by omega)); exact ⟨a, _, c, h, trivial⟩
          obtain ⟨m2, k2, d2, hu2, _⟩ : ∃ a n c, u 2 = .slice a n c ∧ True := by obtain ⟨a, c, h, _⟩ := Sq.row_cases (HS.out.row 2 (by omega)); exact ⟨a, _, c, h, trivial⟩
          obtain ⟨m3, k3, d3, hu3, _⟩ : ∃ a n c, u 3 = .slice a n c ∧ True := by obtain ⟨a, c, h, _⟩ := Sq.row_cases (HS.out.row 3 (by omega)); exact ⟨a, _, c, h, trivial⟩
          have hbx := HS.out.box
          have HU := Lib.hid (show u 0 = .slice m0 k0 d0 ∧ u 1 = .slice m1 k1 d1 ∧ u 2 = .slice m2 k2 d2 ∧ u 3 = .slice m3 k3 d3 from ⟨hu0, hu1, hu2, hu3⟩)
          rw [hu0, hu1, hu2, hu3] at hbx
          have o0 := hbx.cell 0
          have o1 := hbx.cell 1
          have o2 := hbx.cell 2
          have o3 := hbx.cell 3
          have o4 := hbx.cell 4
          have o5 := hbx.cell 5
          have o6 := hbx.cell 6
          simp at o0 o1 o2 o3 o4 o5 o6
          have z7 := HZ4.out.below hB7
          have HZ := Lib.hid z7
          have hbrw : br < bo := by rw [← HBO.out]; exact HZ4.out.lt
          have hwbr : w.heap.size ≤ br := hwr
          have f0 := z7.frozen 0; have f1 := z7.frozen 1; have f2 := z7.frozen 2; have f3 := z7.frozen 3; have f4 := z7.frozen 4; have f5 := z7.frozen 5; have f6 := z7.frozen 6; have r0 := z7.cell 0; have r1 := z7.cell 1; have r2 := z7.cell 2; have r3 := z7.cell 3; have r4 := z7.cell 4; have r5 := z7.cell 5; have r6 := z7.cell 6; simp at r0 r1 r2 r3 r4 r5 r6
          clear hu0 hu1 hu2 hu3 hbx z7
          simp only [Exit.inBlock, Exit.then, if_true]
          go_wp2_with fail
          have hz := (((((((HZ.out.set 0 (.int .u64 e.next)).set 1 (.int .u64 e.seq)).set 2 (.int .u64 e.log)).set 3 (.slice m0 k0 d0)).set 4 (.slice m1 k1 d1)).set 5 (.slice m2 k2 d2)).set 6 (.slice m3 k3 d3))
          have hs := HS.out.set7 hbrw (.int .u64 e.next) (.int .u64 e.seq) (.int .u64 e.log) (.slice m0 k0 d0) (.slice m1 k1 d1) (.slice m2 k2 d2) (.slice m3 k3 d3)
          have hb := below7 b7 hwbr (.int .u64 e.next) (.int .u64 e.seq) (.int .u64 e.log) (.slice m0 k0 d0) (.slice m1 k1 d1) (.slice m2 k2 d2) (.slice m3 k3 d3)
          have s0 := hz.cell 0
          have s1 := hz.cell 1
          have s2 := hz.cell 2
          have s3 := hz.cell 3
          have s4 := hz.cell 4
          have s5 := hz.cell 5
          have s6 := hz.cell 6
          simp at s0 s1 s2 s3 s4 s5 s6
          generalize (((((((W3.setCell ⟨br, 0, none⟩ (.int .u64 e.next)).setCell ⟨br, 1, none⟩ (.int .u64 e.seq)).setCell ⟨br, 2, none⟩ (.int .u64 e.log)).setCell ⟨br, 3, none⟩ (.slice m0 k0 d0)).setCell ⟨br, 4, none⟩ (.slice m1 k1 d1)).setCell ⟨br, 5, none⟩ (.slice m2 k2 d2)).setCell ⟨br, 6, none⟩ (.slice m3 k3 d3)) = wZ at *
          exact bodyPost_ret (v := .tuple #[.agg #[.int .u64 e.next, .int .u64 e.seq, .int .u64 e.log, .slice m0 k0 d0, .slice m1 k1 d1, .slice m2 k2 d2, .slice m3 k3 d3], .int .i64 0]) (by simp [results, Try.results10, go_sem, s0, s1, s2, s3, s4, s5, s6]) rfl ⟨u, by rw [HCL.out.1, HCL.out.2, HU.out.1, HU.out.2.1, HU.out.2.2.1, HU.out.2.2.2], by rw [HCL.out.2]; exact hs.out (by have := HB4.out.size; have := HBO.out; omega), hb⟩
end Mf
end Go.Proofs.Ytpldfdlnhgmnaaa

/-
  What edits make of nothing, those left out that are refused: plain. No program is named here.
-/
namespace Go.Proofs.Ytpldfdlnhgmnaaa
set_option linter.unusedVariables false
set_option linter.unusedSimpArgs false
namespace Mf
def madeP (es : List Ed) : Lv := es.foldl (fun l e => if appC l e = 0 then appL l e else l) lv0
theorem madeP_snoc (es : List Ed) (e : Ed) : madeP (es ++ [e]) = if appC (madeP es) e = 0 then appL (madeP es) e else madeP es := by unfold madeP; rw [List.foldl_append]; rfl
/-- levels in order, none longer than that -/
structure MadeOk (l : Lv) (M : Nat) : Prop where
  t4 : T4 l.t
  len : ∀ r ∈ l.t, r.length ≤ M
theorem T4.zero : T4 lv0.t := by
  refine ⟨rfl, fun k hk => ?_, by simp [lv0, numsT]⟩
  have : k = 0 ∨ k = 1 ∨ k = 2 ∨ k = 3 := by omega
  rcases this with rfl | rfl | rfl | rfl <;> exact levOk_nil _
theorem MadeOk.zero : MadeOk lv0 0 := ⟨T4.zero, fun r hr => by simp [lv0] at hr; rw [hr]; exact Nat.le_refl _⟩
theorem app_zero {l : Lv} {e : Ed} (h : appC l e = 0) : mayE e = true ∧ ∃ x, applyP l e = some x ∧ appL l e = x := by
  cases hm : mayE e with
  | false => rw [(app_arg hm).1] at h; cases h
  | true =>
    cases hn : applyP l e with
    | none => rw [(app_form hm hn).1] at h; cases h
    | some x => exact ⟨rfl, x, rfl, (app_ok hm hn).2⟩
theorem applyP_some {l x : Lv} {e : Ed} (h : applyP l e = some x) : ∃ t, addAll e.next e.add (stay e.drop l.t) = some t ∧ x = ⟨e.next, e.seq, e.log, t⟩ := by
  unfold applyP at h
  split at h
  · cases h
  · split at h
    · cases h
    · cases ha : addAll e.next e.add (stay e.drop l.t) with
      | none => rw [ha] at h; cases h
      | some t => rw [ha] at h; simp at h; exact ⟨t, rfl, h.symm⟩
theorem MadeOk.step {l : Lv} {M : Nat} (h : MadeOk l M) (e : Ed) : MadeOk (if appC l e = 0 then appL l e else l) (M + e.add.length) := by
  split
  · rename_i h0
    obtain ⟨hm, x, hx, hl⟩ := app_zero h0
    obtain ⟨t, ht, rfl⟩ := applyP_some hx
    rw [hl]
    obtain ⟨t4, _, hA⟩ := addAll_some e.add (stay e.drop l.t) t (h.t4.stay e.drop) (may_add hm) ht
    refine ⟨t4, le_getD fun k hk => ?_⟩
    rw [t4.four] at hk
    have h1 := (hA k hk).length_eq
    rw [List.length_append, stay_lev _ _ hk] at h1
    have h2 := List.length_filter_le (fun x : Tbl => x.lev == (k : Int)) e.add
    have h3 := List.length_filter_le (fun x : Tbl => !e.drop.contains x.num) (l.t.getD k [])
    have h4 := getD_le h.len k
    show (t.getD k []).length ≤ _
    omega
  · exact ⟨h.t4, fun r hr => Nat.le_trans (h.len r hr) (Nat.le_add_right _ _)⟩
theorem madeOk : ∀ (n : Nat) (es : List Ed), es.length = n → MadeOk (madeP es) (es.map (·.add.length)).sum
  | 0, es, h => by rw [List.eq_nil_of_length_eq_zero h]; exact MadeOk.zero
  | n + 1, es, h => by
    have hne : es ≠ [] := fun e => by rw [e] at h; cases h
    have he := List.dropLast_concat_getLast hne
    have ih := madeOk n es.dropLast (by rw [List.length_dropLast, h]; rfl)
    rw [← he, madeP_snoc, List.map_append, List.sum_append]
    have := ih.step (es.getLast hne)
    simpa using this
theorem sum_take_le (l : List Nat) (q : Nat) : (l.take q).sum ≤ l.sum := by
  have h : (l.take q ++ l.drop q).sum = l.sum := by rw [List.take_append_drop]
  rw [List.sum_append] at h
  omega
end Mf
end Go.Proofs.Ytpldfdlnhgmnaaa
