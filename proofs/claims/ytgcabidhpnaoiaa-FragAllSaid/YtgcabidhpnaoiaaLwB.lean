import Derived.Test.YtgcabidhpnaoiaaFgK
import Derived.Test.YtgcabidhpnaoiaaFgQ
import Derived.Test.YtgcabidhpnaoiaaBx7
import Derived.Test.YtgcabidhpnaoiaaLwN
namespace Go.Proofs.Ytgcabidhpnaoiaa
open Go Go.RowKit Go.Shelf Fg
set_option linter.unusedVariables false
set_option linter.unusedSimpArgs false
/-! FragAll: the innermost loop that counts. -/
def loopsOf : Code → List Code
  | .loop c => .loop c :: loopsOf c
  | .seq a b => loopsOf a ++ loopsOf b
  | .block _ c => loopsOf c
  | .scope c => loopsOf c
  | .cond _ a b => loopsOf a ++ loopsOf b
  | _ => []
noncomputable def code7 : Code := (((Try.f5.body.map loopsOf).getD [])[6]?).getD .skip
set_option maxRecDepth 1000000 in
set_option maxHeartbeats 4000000 in
theorem loop7 (g2 o2 n c NT cT i : Nat) (T : Option Addr) (l : List CtB) (L : Lay) (nx : Nat → Nat) (F : Nat) (js : List Nat) (tl : List MsB) (x : CtB) (bw : Nat) (wq wr : World) (s1 s2 s3 s4 s5 s6 s7 s8 s9 s10 s11 s12 s13 s15 s16 s17 s19 s20 s21 s26 s27 s28 s29 s30 s31 s32 s33 s34 s35 s36 s37 s38 s39 s40 s41 s42 s43 s44 s45 s46 s47 s48 s49 s50 s51 s52 s53 s54 s55 s56 s57 s58 s59 s60 s61 s62 s63 s64 s65 s66 s67 s68 s69 s70 s71 s72 s73 s74 s75 s76 s77 s78 s79 s80 s81 s82 s83 s84 s85 s86 s87 s88 s89 s90 s91 s92 s93 s94 s95 s96 s97 s98 s99 s100 s101 s102 s103 s104 s105 s106 s107 s108 s109 s110 s111 s112 s113 s114 s115 s116 s117 s118 s119 s120 s121 s122 s123 s124 s125 s126 s127 s128 s129 s130 s131 s132 s133 s134 s135 s136 s137 s138 s139 s140 s141 s142 s143 s144 s145 s146 s147 s148 s149 s150 s151 s152 s153 s154 s155 s156 s157 s158 s159 s160 s161 s162 s163 s164 s165 s166 s167 s168 s169 s170 s171 s172 s173 s174 s175 s176 s177 s178 s179 s180 s181 s182 s183 s184 s185 s186 s187 s188 s189 s190 s191 s192 s193 s194 s195 s196 s197 s198 s199 s200 s201 s202 s203 s204 s205 s206 s207 s208 s209 s210 s211 s212 s213 s214 s215 s216 s217 s218 s219 s220 s221 s222 s223 s224 s225 s226 s227 s228 s229 s230 s231 s232 s233 s234 s235 s236 s237 s238 s239 s240 s241 s242 s243 s244 s245 s246 s247 s248 s249 s250 : Value) (Q7 : Exit → Act → World → Prop)
    (HL : Hid (LayOf L nx F (min l.length 20) l)) (HC : Hid (NT = L.C)) (HPE : Hid (js.Perm (List.range L.C))) (hTL : Hid (NT = tl.length)) (hTJ : Hid (tl.map (·.m) = js.map (tell L)))
    (hRT : Hid (wq.ownsRow bw 32 2 (.slice T NT cT) NT (tl.flatMap mc))) (hBT : Hid (∀ z ∈ tl, OwnI .u8 5 0 wq z.A z.m.2.length z.c z.m.2 ∧ Byt z.m.2)) (hA2 : Hid (InC wq (some ⟨g2, o2, none⟩) n c l))
    (hN20 : NT ≤ 20) (hNn : NT ≤ n) (hi : i < NT) (hiI : (i : Int) < (n : Int))
    (HCX : Hid (∀ w2, Up wq w2 → w2.cell? ⟨g2, o2 + i * 4, none⟩ = some (.int .u16 x.st) ∧ w2.cell? ⟨g2, o2 + i * 4 + 1, none⟩ = some (.slice x.A x.bs.length x.c) ∧ Hid (InB w2 x.A x.bs.length x.c x.bs)))
    (HTX : Hid (tell L i = (x.st, x.bs))) (hV : Hid (Up wq wr))
    (hexit : ∀ (u181 u182 u183 u184 u185 u186 u187 u188 u189 u190 u191 u192 u193 u194 u195 u196 u197 u198 u199 u200 u201 u202 u203 u204 u205 u206 u207 u208 u209 u210 u211 u212 u213 u214 u215 u216 u217 u218 u219 u220 u221 u222 u223 u224 u225 u226 u227 u228 u229 u230 u231 u232 u233 u234 u235 u236 u237 u238 u239 u240 u241 u242 u243 u244 u245 u246 u247 : Value) (a : Nat) (w' : World), Hid (Up wq w') → Q7 (.exit 12) ⟨List.toArray (.slice (some ⟨g2, o2, none⟩) n c :: s1 :: s2 :: s3 :: s4 :: s5 :: s6 :: s7 :: s8 :: s9 :: s10 :: s11 :: s12 :: s13 :: .slice T NT cT :: s15 :: s16 :: s17 :: .int .i64 (NT : Int) :: s19 :: s20 :: s21 :: .int .i64 (i : Int) :: .int .i64 (a : Int) :: .int .i64 (a : Int) :: .int .i64 (NT : Int) :: s26 :: s27 :: s28 :: s29 :: s30 :: s31 :: s32 :: s33 :: s34 :: s35 :: s36 :: s37 :: s38 :: s39 :: s40 :: s41 :: s42 :: s43 :: s44 :: s45 :: s46 :: s47 :: s48 :: s49 :: s50 :: s51 :: s52 :: s53 :: s54 :: s55 :: s56 :: s57 :: s58 :: s59 :: s60 :: s61 :: s62 :: s63 :: s64 :: s65 :: s66 :: s67 :: s68 :: s69 :: s70 :: s71 :: s72 :: s73 :: s74 :: s75 :: s76 :: s77 :: s78 :: s79 :: s80 :: s81 :: s82 :: s83 :: s84 :: s85 :: s86 :: s87 :: s88 :: s89 :: s90 :: s91 :: s92 :: s93 :: s94 :: s95 :: s96 :: s97 :: s98 :: s99 :: s100 :: s101 :: s102 :: s103 :: s104 :: s105 :: s106 :: s107 :: s108 :: s109 :: s110 :: s111 :: s112 :: s113 :: s114 :: s115 :: s116 :: s117 :: s118 :: s119 :: s120 :: s121 :: s122 :: s123 :: s124 :: s125 :: s126 :: s127 :: s128 :: s129 :: s130 :: s131 :: s132 :: s133 :: s134 :: s135 :: s136 :: s137 :: s138 :: s139 :: s140 :: s141 :: s142 :: s143 :: s144 :: s145 :: s146 :: s147 :: s148 :: s149 :: s150 :: s151 :: s152 :: s153 :: s154 :: s155 :: s156 :: s157 :: s158 :: s159 :: s160 :: s161 :: s162 :: s163 :: s164 :: s165 :: s166 :: s167 :: s168 :: s169 :: s170 :: s171 :: s172 :: s173 :: s174 :: s175 :: s176 :: s177 :: s178 :: s179 :: s180 :: u181 :: u182 :: u183 :: u184 :: u185 :: u186 :: u187 :: u188 :: u189 :: u190 :: u191 :: u192 :: u193 :: u194 :: u195 :: u196 :: u197 :: u198 :: u199 :: u200 :: u201 :: u202 :: u203 :: u204 :: u205 :: u206 :: u207 :: u208 :: u209 :: u210 :: u211 :: u212 :: u213 :: u214 :: u215 :: u216 :: u217 :: u218 :: u219 :: u220 :: u221 :: u222 :: u223 :: u224 :: u225 :: u226 :: u227 :: u228 :: u229 :: u230 :: u231 :: u232 :: u233 :: u234 :: u235 :: u236 :: u237 :: u238 :: u239 :: u240 :: u241 :: u242 :: u243 :: u244 :: u245 :: u246 :: u247 :: s248 :: s249 :: s250 :: []), []⟩ w') :
    Code.wp Try.prog code7 Q7 ⟨List.toArray (.slice (some ⟨g2, o2, none⟩) n c :: s1 :: s2 :: s3 :: s4 :: s5 :: s6 :: s7 :: s8 :: s9 :: s10 :: s11 :: s12 :: s13 :: .slice T NT cT :: s15 :: s16 :: s17 :: .int .i64 (NT : Int) :: s19 :: s20 :: s21 :: .int .i64 (i : Int) :: .int .i64 0 :: .int .i64 0 :: .int .i64 0 :: s26 :: s27 :: s28 :: s29 :: s30 :: s31 :: s32 :: s33 :: s34 :: s35 :: s36 :: s37 :: s38 :: s39 :: s40 :: s41 :: s42 :: s43 :: s44 :: s45 :: s46 :: s47 :: s48 :: s49 :: s50 :: s51 :: s52 :: s53 :: s54 :: s55 :: s56 :: s57 :: s58 :: s59 :: s60 :: s61 :: s62 :: s63 :: s64 :: s65 :: s66 :: s67 :: s68 :: s69 :: s70 :: s71 :: s72 :: s73 :: s74 :: s75 :: s76 :: s77 :: s78 :: s79 :: s80 :: s81 :: s82 :: s83 :: s84 :: s85 :: s86 :: s87 :: s88 :: s89 :: s90 :: s91 :: s92 :: s93 :: s94 :: s95 :: s96 :: s97 :: s98 :: s99 :: s100 :: s101 :: s102 :: s103 :: s104 :: s105 :: s106 :: s107 :: s108 :: s109 :: s110 :: s111 :: s112 :: s113 :: s114 :: s115 :: s116 :: s117 :: s118 :: s119 :: s120 :: s121 :: s122 :: s123 :: s124 :: s125 :: s126 :: s127 :: s128 :: s129 :: s130 :: s131 :: s132 :: s133 :: s134 :: s135 :: s136 :: s137 :: s138 :: s139 :: s140 :: s141 :: s142 :: s143 :: s144 :: s145 :: s146 :: s147 :: s148 :: s149 :: s150 :: s151 :: s152 :: s153 :: s154 :: s155 :: s156 :: s157 :: s158 :: s159 :: s160 :: s161 :: s162 :: s163 :: s164 :: s165 :: s166 :: s167 :: s168 :: s169 :: s170 :: s171 :: s172 :: s173 :: s174 :: s175 :: s176 :: s177 :: s178 :: s179 :: s180 :: s181 :: s182 :: s183 :: s184 :: s185 :: s186 :: s187 :: s188 :: s189 :: s190 :: s191 :: s192 :: s193 :: s194 :: s195 :: s196 :: s197 :: s198 :: s199 :: s200 :: s201 :: s202 :: s203 :: s204 :: s205 :: s206 :: s207 :: s208 :: s209 :: s210 :: s211 :: s212 :: s213 :: s214 :: s215 :: s216 :: s217 :: s218 :: s219 :: s220 :: s221 :: s222 :: s223 :: s224 :: s225 :: s226 :: s227 :: s228 :: s229 :: s230 :: s231 :: s232 :: s233 :: s234 :: s235 :: s236 :: s237 :: s238 :: s239 :: s240 :: s241 :: s242 :: s243 :: s244 :: s245 :: s246 :: s247 :: s248 :: s249 :: s250 :: []), []⟩ wr := by
  have HEX := Lib.hid hexit
  clear hexit
  conv => arg 2; whnf
  go_loopw [23, 24, 25] (fun v23 v24 v25 wr => ∃ (k a c : Nat), v23 = .int .i64 (a : Int) ∧ v24 = .int .i64 (c : Int) ∧ v25 = .int .i64 (k : Int) ∧ k ≤ NT ∧ a ≤ k ∧ c ≤ k ∧ Hid (a = cntT L i (js.take k)) ∧ Hid (c = cntT L i (List.range k)) ∧ Hid (Up wq wr)) (fun _ _ v25 _ => NT - (intOf v25).toNat)
  case atStart => exact ⟨0, 0, 0, rfl, rfl, rfl, by omega, by omega, by omega, Lib.hid rfl, Lib.hid rfl, hV⟩
  case round =>
    clear hV
    obtain ⟨k, a, c, rfl, rfl, rfl, hkN, hak, hck, hCA, hCC, hV⟩ := hrel
    have hjl : js.length = NT := by have h1 := HPE.out.length_eq; have h2 := HC.out; simp at h1; omega
    by_cases hk : k < NT
    · have d6 : decide ((k : Int) < (NT : Int)) = true := by simp; omega
      have hkI : (k : Int) < (NT : Int) := by omega
      have hkn : (k : Int) < (n : Int) := by omega
      obtain ⟨z, hz⟩ : ∃ z, tl[k]? = some z := ⟨_, List.getElem?_eq_getElem (by have := hTL.out; omega)⟩
      obtain ⟨gT, rfl⟩ := row_at hRT.out (by omega)
      obtain ⟨jk, hjk⟩ : ∃ jk, js[k]? = some jk := ⟨_, List.getElem?_eq_getElem (by omega)⟩
      have hzm : z.m = tell L jk := by
        have h3 : (tl.map (·.m))[k]? = some z.m := by rw [List.getElem?_map, hz]; rfl
        rw [hTJ.out, List.getElem?_map, hjk] at h3
        exact (Option.some.inj h3).symm
      have HA1 : Hid (cntT L i (js.take (k + 1)) = a + if (z.m.1, z.m.2) = (x.st, x.bs) then 1 else 0) := Lib.hid (by
        rw [cntT_take hjk, ← hCA.out, ← HTX.out, ← hzm])
      obtain ⟨y, g3, o3, hy, hgA, hcy, hybq, hyl⟩ := hA2.out.at_ (show k < n by omega)
      injection hgA with hgA
      injection hgA with hgA1 hgA2
      subst hgA1
      subst hgA2
      have HY := Lib.hid (HL.out.lab k y hy (by have h1 := HL.out.c; have h2 := HC.out; omega))
      have HA3 : Hid (cntT L i (List.range (k + 1)) = c + if (y.st, y.bs) = (x.st, x.bs) then 1 else 0) := Lib.hid (by
        rw [cntT_range, ← hCC.out, ← HTX.out]
        unfold tell
        rw [HY.out.1, HY.out.2.2])
      have HYB := Lib.hid hybq
      have hy0 : wq.cell? ⟨g2, o2 + k * 4, none⟩ = some (.int .u16 y.st) := hcy 0 _ rfl
      have hy1 : wq.cell? ⟨g2, o2 + k * 4 + 1, none⟩ = some (.slice y.A y.bs.length y.c) := hcy 1 _ rfl
      have HY0 := Lib.hid hy0
      have HY1 := Lib.hid hy1
      have c0 : wr.cell? ⟨gT, k * 2, none⟩ = some (.int .u16 z.m.1) := cell_up (row_cell hRT.out (rowG_at mc 2 mc_len hz (j := 0) rfl)) hV.out
      have c1 : wr.cell? ⟨gT, k * 2 + 1, none⟩ = some (.slice z.A z.m.2.length z.c) := cell_up (row_cell hRT.out (rowG_at mc 2 mc_len hz (j := 1) rfl)) hV.out
      have HZB : Hid (InB wr z.A z.m.2.length z.c z.m.2) := Lib.hid ((own_inB (hBT.out z (List.mem_of_getElem? hz)).1 (hBT.out z (List.mem_of_getElem? hz)).2).up hV.out)
      obtain ⟨kx0, kx1, HXV⟩ := HCX.out wr hV.out
      have v1 := fun j => conv_up HZB.out (up_drewN wr j)
      have v2 := fun j => conv_up HXV.out (up_drewN wr j)
      have hes := str_eq HZB.out.byt HXV.out.byt
      clear hz hjk hzm hy hybq hcy hy0 hy1
      go_upto_region 46 with (fail)
      go_cut [213] from 181 to 247 (fun v wx => v = .bool (decide ((z.m.1, z.m.2) = (x.st, x.bs))) ∧ Hid (Up wq wx))
      case first =>
        by_cases h1 : z.m.1 = x.st
        · have d7 : ((z.m.1 : Int) == (x.st : Int)) = true := by simp; omega
          by_cases h2 : z.m.2 = x.bs
          · have hvv : decide ((z.m.1, z.m.2) = (x.st, x.bs)) = true := decide_eq_true (by rw [h1, h2])
            have HVV := Lib.hid hvv
            clear hvv
            rw [h2] at c1 v1
            have hes2 : ((strOfNums x.bs).toList == (strOfNums x.bs).toList) = true := by simp
            clear hes
            go_quiet (fail)
            go_wp2_with fail
            go_meet
            exact ⟨congrArg Value.bool HVV.out.symm, Lib.hid (hV.out.trans (up_drewN wr _))⟩
          · have hvv : decide ((z.m.1, z.m.2) = (x.st, x.bs)) = false := decide_eq_false (fun e => h2 (congrArg Prod.snd e))
            have HVV := Lib.hid hvv
            clear hvv
            rw [decide_eq_false h2] at hes
            go_quiet (fail)
            go_wp2_with fail
            go_meet
            exact ⟨congrArg Value.bool HVV.out.symm, Lib.hid (hV.out.trans (up_drewN wr _))⟩
        · have d7 : ((z.m.1 : Int) == (x.st : Int)) = false := by simp; omega
          have hvv : decide ((z.m.1, z.m.2) = (x.st, x.bs)) = false := decide_eq_false (fun e => h1 (congrArg Prod.fst e))
          have HVV := Lib.hid hvv
          clear hvv
          go_quiet (fail)
          go_wp2_with fail
          go_meet
          exact ⟨congrArg Value.bool HVV.out.symm, Lib.hid (hV.out.trans (up_drewN wr _))⟩
      case rest =>
      obtain ⟨rfl, HU1⟩ := hcut
      clear c0 c1 v1 v2 kx0 kx1 hes HZB HXV hV
      obtain ⟨b1, hb1⟩ : ∃ b, b = decide ((z.m.1, z.m.2) = (x.st, x.bs)) := ⟨_, rfl⟩
      rw [← hb1]
      obtain ⟨a1, ha1⟩ : ∃ a1 : Nat, a1 = a + if b1 = true then 1 else 0 := ⟨_, rfl⟩
      have HA2 : Hid (cntT L i (js.take (k + 1)) = a1) := Lib.hid (by rw [HA1.out, ha1, hb1]; by_cases h : (z.m.1, z.m.2) = (x.st, x.bs) <;> simp [h])
      have ha1k : a1 ≤ k + 1 := by rw [ha1]; split <;> omega
      clear hb1 HA1
      go_upto_if 213 with (fail)
      go_cut [23] from 181 to 247 (fun v wx => v = .int .i64 (a1 : Int) ∧ wx = wc)
      case first =>
        cases b1 with
        | true =>
          have e1 : (a1 : Int) = (a : Int) + 1 := by rw [ha1]; simp
          have E1 := Lib.hid e1
          clear e1 ha1
          go_wp2_with fail
          go_meet
          exact ⟨by rw [E1.out], rfl⟩
        | false =>
          have e1 : (a1 : Int) = (a : Int) := by rw [ha1]; simp
          have E1 := Lib.hid e1
          clear e1 ha1
          go_wp2_with fail
          go_meet
          exact ⟨by rw [E1.out], rfl⟩
      case rest =>
      obtain ⟨rfl, hw2⟩ := hcut
      subst hw2
      clear ha1
      obtain ⟨wr, hwr⟩ : ∃ wr, wr = wc := ⟨_, rfl⟩
      subst hwr
      have k0 : wr.cell? ⟨g2, o2 + k * 4, none⟩ = some (.int .u16 y.st) := cell_up HY0.out HU1.out
      have k1 : wr.cell? ⟨g2, o2 + k * 4 + 1, none⟩ = some (.slice y.A y.bs.length y.c) := cell_up HY1.out HU1.out
      have HYV := Lib.hid (HYB.out.up HU1.out)
      obtain ⟨kx0, kx1, HXV⟩ := HCX.out wr HU1.out
      have v1 := fun j => conv_up HYV.out (up_drewN wr j)
      have v2 := fun j => conv_up HXV.out (up_drewN wr j)
      have hes := str_eq HYV.out.byt HXV.out.byt
      go_upto_region 48 with (fail)
      go_cut [245] from 181 to 247 (fun v wx => v = .bool (decide ((y.st, y.bs) = (x.st, x.bs))) ∧ Hid (Up wq wx))
      case first =>
        by_cases h1 : y.st = x.st
        · have d7 : ((y.st : Int) == (x.st : Int)) = true := by simp; omega
          by_cases h2 : y.bs = x.bs
          · have hvv : decide ((y.st, y.bs) = (x.st, x.bs)) = true := decide_eq_true (by rw [h1, h2])
            have HVV := Lib.hid hvv
            clear hvv
            rw [h2] at k1 v1
            have hes2 : ((strOfNums x.bs).toList == (strOfNums x.bs).toList) = true := by simp
            clear hes
            go_quiet (fail)
            go_wp2_with fail
            go_meet
            exact ⟨congrArg Value.bool HVV.out.symm, Lib.hid (HU1.out.trans (up_drewN wr _))⟩
          · have hvv : decide ((y.st, y.bs) = (x.st, x.bs)) = false := decide_eq_false (fun e => h2 (congrArg Prod.snd e))
            have HVV := Lib.hid hvv
            clear hvv
            rw [decide_eq_false h2] at hes
            go_quiet (fail)
            go_wp2_with fail
            go_meet
            exact ⟨congrArg Value.bool HVV.out.symm, Lib.hid (HU1.out.trans (up_drewN wr _))⟩
        · have d7 : ((y.st : Int) == (x.st : Int)) = false := by simp; omega
          have hvv : decide ((y.st, y.bs) = (x.st, x.bs)) = false := decide_eq_false (fun e => h1 (congrArg Prod.fst e))
          have HVV := Lib.hid hvv
          clear hvv
          go_quiet (fail)
          go_wp2_with fail
          go_meet
          exact ⟨congrArg Value.bool HVV.out.symm, Lib.hid (HU1.out.trans (up_drewN wr _))⟩
      case rest =>
      obtain ⟨rfl, HU2⟩ := hcut
      clear k0 k1 v1 v2 kx0 kx1 hes HYV HXV HU1
      obtain ⟨b2, hb2⟩ : ∃ b, b = decide ((y.st, y.bs) = (x.st, x.bs)) := ⟨_, rfl⟩
      rw [← hb2]
      obtain ⟨c1, hc1⟩ : ∃ c1 : Nat, c1 = c + if b2 = true then 1 else 0 := ⟨_, rfl⟩
      have HA4 : Hid (cntT L i (List.range (k + 1)) = c1) := Lib.hid (by rw [HA3.out, hc1, hb2]; by_cases h : (y.st, y.bs) = (x.st, x.bs) <;> simp [h])
      have hc1k : c1 ≤ k + 1 := by rw [hc1]; split <;> omega
      clear hb2 HA3
      cases b2 with
      | true =>
        have e1 : (c1 : Int) = (c : Int) + 1 := by rw [hc1]; simp
        have E1 := Lib.hid e1
        clear e1 hc1
        go_wp2_with fail
        go_roundw
        case rel => exact ⟨k + 1, a1, c1, rfl, by rw [E1.out], by go_num, by omega, ha1k, hc1k, Lib.hid HA2.out.symm, Lib.hid HA4.out.symm, HU2⟩
        case measure => simp [intOf]; omega
      | false =>
        have e1 : (c1 : Int) = (c : Int) := by rw [hc1]; simp
        have E1 := Lib.hid e1
        clear e1 hc1
        go_wp2_with fail
        go_roundw
        case rel => exact ⟨k + 1, a1, c1, rfl, by rw [E1.out], by go_num, by omega, ha1k, hc1k, Lib.hid HA2.out.symm, Lib.hid HA4.out.symm, HU2⟩
        case measure => simp [intOf]; omega
    · obtain rfl : k = NT := by omega
      have d6 : decide ((k : Int) < (k : Int)) = false := by simp
      have hac : a = c := by
        have h1 := hCA.out
        have h2 := hCC.out
        rw [List.take_of_length_le (by omega), cntT_perm HPE.out, ← HC.out] at h1
        omega
      subst hac
      have d7 : ((a : Int) != (a : Int)) = false := by simp
      clear hCA hCC
      go_wp2_with fail
      exact HEX.out _ _ _ _ _ _ _ _ _ _ _ _ _ _ _ _ _ _ _ _ _ _ _ _ _ _ _ _ _ _ _ _ _ _ _ _ _ _ _ _ _ _ _ _ _ _ _ _ _ _ _ _ _ _ _ _ _ _ _ _ _ _ _ _ _ _ _ a _ hV
end Go.Proofs.Ytgcabidhpnaoiaa
