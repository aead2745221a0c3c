/- The walk of PackReads: the round's arm of kind 5. -/
import Derived.Test.YtlfblldaiinghaaReads0
import Derived.Deep.DeepCutAuto
import Derived.Deep.RegionHeld3
namespace Go.Proofs.Ytlfblldaiinghaa
open Go.ChangeShapes Go.WideShapes Go.ChangeAt Go.RowKit
set_option linter.unusedVariables false
set_option linter.unusedSimpArgs false

set_option maxRecDepth 1000000 in
set_option maxHeartbeats 4000000 in
theorem arm5 (sw : Code) (hsw : Try.f4.body.bind findSw = some sw) (c0 c1 c2 c3 c4 c5 c8 c11 c12 c13 c14 c15 c16 c17 c18 c19 c20 c21 c22 c23 c24 c25 c26 c27 c28 c29 c30 c31 c32 c33 c34 c35 c36 c37 c38 c39 c40 c41 c42 c43 c44 c45 c46 c47 c48 c49 c50 c51 c52 c53 c54 c55 c56 c57 c58 c59 c60 c61 c62 c63 c64 c65 c66 c67 c68 c69 c70 c71 c72 c73 c74 c75 c76 c77 c78 c79 c80 c81 c82 c83 c84 c85 c86 c87 c88 c89 c90 c91 c92 c93 c94 c95 c96 c97 c98 c99 c100 c101 c102 c103 c104 c105 c106 c107 c108 c109 c110 c111 c112 c113 c114 c115 c116 c117 c118 c119 c120 c121 c122 c123 c124 c125 c126 c127 c128 c129 c130 c131 c132 c133 c134 c135 c136 c137 c138 c139 c140 c141 c142 c143 c144 c145 c146 c147 c148 c149 c150 c151 c152 c153 c154 c155 c156 c157 c158 c159 c160 c161 c162 c163 c164 c165 c166 c167 c168 c169 c170 c171 c172 c173 c174 c175 c176 c177 c178 c179 c180 c181 c182 c183 c184 c185 c186 c187 c188 c189 c190 c191 c192 c193 c194 c195 c196 c197 c198 c199 c200 c201 c202 c203 c204 c205 c206 c207 c208 c209 c210 c211 c212 c213 c214 c215 c216 c217 c218 c219 c220 c221 c222 c223 c224 c225 c226 c227 c228 c229 c230 c231 c232 c233 c234 c235 c236 c237 c238 c239 c240 c241 c242 c243 c244 c245 c246 c247 c248 c249 c250 c251 c252 c253 c254 c255 c256 c257 c258 c259 c260 c261 c262 c263 c264 c265 c266 c267 c268 c269 c270 c271 c272 c273 c274 c275 c276 c277 c278 c279 : Value) (w wo : World) (c d nb capc cw : Nat) (ac aw : Option Addr) (bs : List Int) (K S N : Int) (at_ lf capd : Nat) (er : Int) (ad : Option Addr)
    (J K' : Act → World → Prop) (Q' : Exit → Act → World → Prop)
    (hJ : ∀ a' w', (∃ u10 u11 u12 u13 u14 u15 u16 u17 u18 u19 u20 u37 u38 u39 u40 u41 u42 u43 u44 u45 u46 u47 u48 u49 u50 u51 u52 u53 u54 u55 u56 u57 u58 u59 u60 u61 u62 u63 u64 u65 u66 u67 u68 u69 u70 u71 u72 u73 u74 u75 u76 u77 u78 u79 u80 u81 u82 u83 u84 u85 u86 u87 u88 u89 u90 u91 u92 u93 u94 u95 u96 u97 u98 u99 u100 u101 u102 u103 u104 u105 u106 u107 u108 u109 u110 u111 u112 u113 u114 u115 u116 u117 u118 u119 u120 u121 u122 u123 u124 u125 u126 u127 u128 u129 u130 u131 u132 u133 u134 u135 u136 u137 u138 u139 u140 u141 u142 u143 u144 u145 u146 u147 u148 u149 u150 u151 u152 u153 u154 u155 u156 u157 u158 u159 u160 u161 u162 u163 u164 u165 u166 u167 u168 u169 u170 u171 u172 u173 u174 u175 u176 u177 u178 u179 u180 u181 u182 u183 u184 u185 u186 u187 u188 u189 u190 u191 u192 u193 u194 u195 u196 u197 u198 u199 u200 u201 u202 u203 u204 u205 u206 u207 u208 u209 u210 u211 u212 u213 u214 u215 u216 u217 u218 u219 u220 u221 u222 u223 u224 u225 u226 u227 u228 u229 u230 u231 u232 u233 u234 u235 u236 u237 u238 u239 u240 u241 u242 u243 u244 u245 u246 u247 u248 u249 u250 u251 u252 u253 u254 u255 : Value, (u10 = .bool true ∧ Hid (RInv w c d ac nb capc bs aw cw w')) ∧ a' = ⟨#[c0, c1, c2, c3, c4, c5, .pointer (some ⟨c, 0, none⟩), .pointer (some ⟨d, 0, none⟩), c8, .pointer (some ⟨wo.heap.size, 0, none⟩), u10, u11, u12, u13, u14, u15, u16, u17, u18, u19, u20, c21, c22, c23, c24, c25, c26, c27, c28, c29, c30, c31, c32, c33, c34, c35, c36, u37, u38, u39, u40, u41, u42, u43, u44, u45, u46, u47, u48, u49, u50, u51, u52, u53, u54, u55, u56, u57, u58, u59, u60, u61, u62, u63, u64, u65, u66, u67, u68, u69, u70, u71, u72, u73, u74, u75, u76, u77, u78, u79, u80, u81, u82, u83, u84, u85, u86, u87, u88, u89, u90, u91, u92, u93, u94, u95, u96, u97, u98, u99, u100, u101, u102, u103, u104, u105, u106, u107, u108, u109, u110, u111, u112, u113, u114, u115, u116, u117, u118, u119, u120, u121, u122, u123, u124, u125, u126, u127, u128, u129, u130, u131, u132, u133, u134, u135, u136, u137, u138, u139, u140, u141, u142, u143, u144, u145, u146, u147, u148, u149, u150, u151, u152, u153, u154, u155, u156, u157, u158, u159, u160, u161, u162, u163, u164, u165, u166, u167, u168, u169, u170, u171, u172, u173, u174, u175, u176, u177, u178, u179, u180, u181, u182, u183, u184, u185, u186, u187, u188, u189, u190, u191, u192, u193, u194, u195, u196, u197, u198, u199, u200, u201, u202, u203, u204, u205, u206, u207, u208, u209, u210, u211, u212, u213, u214, u215, u216, u217, u218, u219, u220, u221, u222, u223, u224, u225, u226, u227, u228, u229, u230, u231, u232, u233, u234, u235, u236, u237, u238, u239, u240, u241, u242, u243, u244, u245, u246, u247, u248, u249, u250, u251, u252, u253, u254, u255, c256, c257, c258, c259, c260, c261, c262, c263, c264, c265, c266, c267, c268, c269, c270, c271, c272, c273, c274, c275, c276, c277, c278, c279], []⟩) → J a' w')
    (hK : ∀ a' w', Met J a' w' → K' a' w')
    (hcw : w.heap.size ≤ c) (hdw : w.heap.size ≤ d) (hcd : c ≠ d) (LF : Hid (nb - at_ = lf))
    (C0 : Hid (CurAt (wo.alloc (.cells #[.int .i64 K, .int .i64 S, .int .i64 N] 46)) c ac nb capc bs at_ er)) (D0 : Hid (RefAt (wo.alloc (.cells #[.int .i64 K, .int .i64 S, .int .i64 N] 46)) d ad lf capd (bs.drop at_) at_ er)) (B0 : Hid (Below w.heap.size w (wo.alloc (.cells #[.int .i64 K, .int .i64 S, .int .i64 N] 46)))) (W0 : Hid (Lies .u8 (wo.alloc (.cells #[.int .i64 K, .int .i64 S, .int .i64 N] 46)) aw nb cw bs))
    (A0 : Hid (∀ x, ad = some x → ∃ y, aw = some y ∧ x.block = y.block)) (K0 : Hid (∀ y, aw = some y → y.block < (wo.alloc (.cells #[.int .i64 K, .int .i64 S, .int .i64 N] 46)).heap.size))
    (hcx : c < wo.heap.size) (hdx : d < wo.heap.size) (WN : Hid ((Lit.int .i64 N).wf = true)) (hnb : nb ≤ 300) (hz : IntKind.u64.wrap K % 6 = 5) :
    Code.wp Try.prog sw (Exit.then K' Q') ⟨#[c0, c1, c2, c3, c4, c5, .pointer (some ⟨c, 0, none⟩), .pointer (some ⟨d, 0, none⟩), c8, .pointer (some ⟨wo.heap.size, 0, none⟩), .bool true, c11, c12, c13, c14, c15, c16, c17, c18, c19, c20, c21, c22, c23, c24, c25, c26, c27, c28, c29, c30, c31, c32, c33, c34, c35, c36, c37, c38, c39, c40, c41, c42, c43, c44, c45, c46, c47, c48, c49, c50, c51, c52, c53, c54, c55, c56, c57, c58, c59, c60, c61, c62, c63, c64, c65, c66, c67, c68, c69, c70, c71, c72, c73, c74, c75, c76, c77, c78, c79, c80, c81, c82, c83, c84, c85, c86, c87, c88, c89, c90, c91, c92, c93, c94, c95, c96, c97, c98, c99, c100, c101, c102, c103, c104, c105, c106, c107, c108, c109, c110, c111, c112, c113, c114, c115, c116, c117, c118, c119, c120, c121, c122, c123, c124, c125, c126, c127, c128, c129, c130, c131, c132, c133, c134, c135, c136, c137, c138, c139, c140, c141, c142, c143, c144, c145, c146, c147, c148, c149, c150, c151, c152, c153, c154, c155, c156, c157, c158, c159, c160, c161, c162, c163, c164, c165, c166, c167, c168, c169, c170, c171, c172, c173, c174, c175, c176, c177, c178, c179, c180, c181, c182, c183, c184, c185, c186, c187, c188, c189, c190, c191, c192, c193, c194, c195, c196, c197, c198, c199, c200, c201, c202, c203, c204, c205, c206, c207, c208, c209, c210, c211, c212, c213, c214, c215, c216, c217, c218, c219, c220, c221, c222, c223, c224, c225, c226, c227, c228, c229, c230, c231, c232, c233, c234, c235, c236, c237, c238, c239, c240, c241, c242, c243, c244, c245, c246, c247, c248, c249, c250, c251, c252, c253, c254, c255, c256, c257, c258, c259, c260, c261, c262, c263, c264, c265, c266, c267, c268, c269, c270, c271, c272, c273, c274, c275, c276, c277, c278, c279], []⟩ (wo.alloc (.cells #[.int .i64 K, .int .i64 S, .int .i64 N] 46)) := by
  have hzt := kind_tmod K _ hz
  conv at hsw => lhs; whnf
  obtain rfl := Option.some.inj hsw
  clear hsw
  clear hz
  go_wp2_with fail
  refine (spoil_any _ c ac nb capc at_ bs er N C0.out).mono ?_
  rintro e w5 ⟨rfl, hc5, hg5, hs5⟩; simp only []
  have C5 : Hid (CurAt w5 c ac nb capc bs at_ (if er = 0 then N else er)) := hc5
  have D5 := hid (D0.out.grown C0.out.noU8 hcd.symm hg5)
  have T5 := hid (Tw.of_c d hg5)
  have x2 : w5.cell? ⟨wo.heap.size, 2, none⟩ = some (.int .i64 N) := box_kept hg5 hcx rfl
  have y2 := D5.out.cell2
  have gs := D5.out.soft 2
  clear hc5 hg5 hs5
  by_cases her : er = 0
  · subst her
    go_wp2_with fail
    have hgd := grownBy_setCell w5 d 2 (.int .i64 N)
    have C9 : Hid (CurAt (w5.setCell ⟨d, 2, none⟩ (.int .i64 N)) c ac nb capc bs at_ N) := C5.out.grown D5.out.noU8 hcd hgd
    have T9 : Tw c d (wo.alloc (.cells #[.int .i64 K, .int .i64 S, .int .i64 N] 46)) (w5.setCell ⟨d, 2, none⟩ (.int .i64 N)) := T5.out.trans (Tw.of_d c hgd)
    go_meet
    case rel =>
      refine ⟨rfl, at_, N, ad, capd, C9.out, ?_, T9.below B0.out hcw hdw, T9.lies C0.out.noU8 D0.out.noU8 W0.out, A0.out, fun y hy => Nat.lt_of_lt_of_le (K0.out y hy) T9.size⟩
      rw [LF.out]; exact D5.out.setEr N
  · have her' : (er == 0) = false := by simp [her]
    have C9 := C5
    rw [if_neg her] at C9
    go_wp2_with fail
    go_meet
    case rel =>
      refine ⟨rfl, at_, er, ad, capd, C9.out, ?_, T5.out.below B0.out hcw hdw, T5.out.lies C0.out.noU8 D0.out.noU8 W0.out, A0.out, fun y hy => Nat.lt_of_lt_of_le (K0.out y hy) T5.out.size⟩
      rw [LF.out]; exact D5.out
end Go.Proofs.Ytlfblldaiinghaa
