/- HeapPlays: an arm of its switch (arm7). -/
import Derived.Test.YtkdhajiplonloaaLArmA
namespace Go.Proofs.Ytkdhajiplonloaa
open Go.RowKit HeaM

set_option maxHeartbeats 8000000 in
set_option maxRecDepth 1000000 in
theorem arm7 (Q : Int) (acts : List Deed) (w : World) (q : Nat) (_hql : q ≤ 256) (_hq1 : 1 ≤ q) (_hqi : (q : Int) ≤ 256) (ca d : Nat) (K3 K2 K1 : Act → World → Prop)
    (u4 _u11 _u12 u13 u14 u15 u16 u17 u18 u19 u20 u21 u22 u23 u24 u25 u26 u27 u28 u29 u30 u31 _u46 _u47 _u48 _u49 _u50 _u51 _u52 _u53 u54 u55 _u56 _u57 _u58 _u59 _u60 _u61 _u62 u63 u64 u65 u66 u67 u68 u69 u70 u71 u72 u73 u74 u75 u76 u77 u78 u79 u80 u81 u82 u83 u84 u85 u86 u87 u88 u89 u90 u91 u92 u93 u94 u95 u96 u97 u98 u99 u100 u101 u102 u103 u104 u105 u106 u107 u108 u109 u110 u111 u112 u113 u114 u115 u116 u117 u118 u119 u120 u121 u122 u123 u124 u125 u126 u127 u128 u129 u130 u131 u132 u133 u134 u135 u136 u137 u138 u139 u140 u141 u142 u143 u144 u145 u146 u147 u148 u149 u150 u151 u152 u153 u154 u155 u156 u157 u158 u159 u160 u161 u162 u163 u164 u165 u166 u167 u168 u169 u170 u171 u172 u173 u174 u175 u176 u177 u178 u179 u180 u181 u182 u183 u184 u185 u186 u187 u188 u189 u190 u191 u192 u193 u194 u195 u196 u197 u198 u199 u200 u201 u202 u203 u204 u205 u206 u207 u208 u209 u210 u211 u212 u213 u214 u215 u216 u217 u218 u219 u220 u221 u222 u223 u224 u225 u226 u227 u228 u229 u230 u231 u232 u233 u234 u235 u236 u237 u238 u239 u240 u241 u242 u243 u244 u245 u246 u247 u248 u249 u250 u251 u252 u253 u254 u255 u256 u257 u258 u259 u260 u261 u262 u263 u264 u265 u266 u267 u268 u269 u270 u271 u272 u273 u274 u275 u276 u277 u278 u279 u280 u281 u282 u283 u284 u285 u286 u287 u288 u289 u290 u291 u292 u293 u294 u295 u296 u297 u298 u299 u300 u301 u302 u303 u304 u305 u306 u307 u308 u309 u310 u311 u312 u313 u314 u315 u316 u317 u318 u319 u320 u321 u322 u323 u324 u325 u326 u327 u328 u329 u330 u331 u332 u333 u334 u335 u336 u337 u338 u339 u340 u341 u342 u343 u344 u345 u346 u347 u348 u349 u350 u351 u352 u353 u354 u355 u356 u357 : Value)
    (k c : Nat) (W : List Nat) (F : List Bool) (mv : Value) (xs : List Nat) (u1 u2 : Value) (hk80 : k < 80) (hxl : xs.length ≤ k) (hck : c ≤ k) (HEV : Hid (Ev xs)) (b off : Nat) (a : Deed) (po : Option Addr) (pc : Nat) (_hpc1 : a.ps.length ≤ pc) (_hpc2 : pc ≤ maxLen)
    (J J1 K' : Act → World → Prop) (hMJ : ∀ (a' : Act) (w' : World), Met J a' w' → K' a' w') (_hMJ1 : ∀ (a' : Act) (w' : World), Met J1 a' w' → K1 a' w') (_HFIT : Hid (∀ (x : Int), x ∈ a.ps → -9223372036854775808 ≤ x ∧ x ≤ 9223372036854775807)) (wa : World)
    (_HPA : Hid (RdV wa (.slice po a.ps.length pc) (a.ps.map fun x => .int .i64 x))) (ga : Nat) (_f2 : wa.cell? ⟨ga, 2, none⟩ = some (.slice po a.ps.length pc)) (_f3 : wa.cell? ⟨ga, 3, none⟩ = some (.string a.s)) (_hgal : ga < wa.heap.size)
    (hJ : ∀ (a' : Act) (w' : World),
    (∃ u4 u8 u9 u13 u14 u15 u16 u17 u18 u19 u20 u21 u22 u23 u24 u25 u26 u27 u28 u29 u30 u31 u46 u47 u48 u49 u50 u51 u52
        u53 u54 u55 u56 u57 u58 u59 u60 u61 u62 u63 u64 u65 u66 u67 u68 u69 u70 u71 u72 u73 u74 u75 u76 u77 u78 u79 u80
        u81 u82 u83 u84 u85 u86 u87 u88 u89 u90 u91 u92 u93 u94 u95 u96 u97 u98 u99 u100 u101 u102 u103 u104 u105 u106
        u107 u108 u109 u110 u111 u112 u113 u114 u115 u116 u117 u118 u119 u120 u121 u122 u123 u124 u125 u126 u127 u128
        u129 u130 u131 u132 u133 u134 u135 u136 u137 u138 u139 u140 u141 u142 u143 u144 u145 u146 u147 u148 u149 u150
        u151 u152 u153 u154 u155 u156 u157 u158 u159 u160 u161 u162 u163 u164 u165 u166 u167 u168 u169 u170 u171 u172
        u173 u174 u175 u176 u177 u178 u179 u180 u181 u182 u183 u184 u185 u186 u187 u188 u189 u190 u191 u192 u193 u194
        u195 u196 u197 u198 u199 u200 u201 u202 u203 u204 u205 u206 u207 u208 u209 u210 u211 u212 u213 u214 u215 u216
        u217 u218 u219 u220 u221 u222 u223 u224 u225 u226 u227 u228 u229 u230 u231 u232 u233 u234 u235 u236 u237 u238
        u239 u240 u241 u242 u243 u244 u245 u246 u247 u248 u249 u250 u251 u252 u253 u254 u255 u256 u257 u258 u259 u260
        u261 u262 u263 u264 u265 u266 u267 u268 u269 u270 u271 u272 u273 u274 u275 u276 u277 u278 u279 u280 u281 u282
        u283 u284 u285 u286 u287 u288 u289 u290 u291 u292 u293 u294 u295 u296 u297 u298 u299 u300 u301 u302 u303 u304
        u305 u306 u307 u308 u309 u310 u311 u312 u313 u314 u315 u316 u317 u318 u319 u320 u321 u322 u323 u324 u325 u326
        u327 u328 u329 u330 u331 u332 u333 u334 u335 u336 u337 u338 u339 u340 u341 u342 u343 u344 u345 u346 u347 u348
        u349 u350 u351 u352 u353 u354 u355 u356 u357,
        (∃ c' W' F' m' r' xs' x1 x2,
            m' = u8 ∧
              r' = u9 ∧ xs'.length ≤ k + 1 ∧ c' ≤ k + 1 ∧ Hid (GmS w w' d q c' W' F' r' m' xs' x1 x2) ∧ Hid (Ev xs')) ∧
          a' =
            {
              tmps :=
                #[Value.int IntKind.u8 Q, Value.slice (some { block := b, off := off }) acts.length ca, undef, undef,
                  u4, Value.int IntKind.i64 ↑q, Value.pointer (some { block := d, off := 0 }), Value.int IntKind.i64 0,
                  u8, u9, Value.int IntKind.i64 ↑k, Value.pointer (some { block := ga, off := 0 }),
                  Value.int IntKind.u8 7, u13, u14, u15, u16, u17, u18, u19, u20, u21, u22, u23, u24, u25, u26, u27,
                  u28, u29, u30, u31, Value.bool true, Value.bool false, Value.bool false, Value.bool false,
                  Value.int IntKind.u8 Q, Value.int IntKind.i64 Q, Value.int IntKind.i64 ↑q,
                  Value.tuple #[Value.pointer (some { block := d, off := 0 }), Value.int IntKind.i64 0],
                  Value.int IntKind.i64 ↑q,
                  Value.tuple #[Value.pointer (some { block := d, off := 0 }), Value.int IntKind.i64 0],
                  Value.pointer (some { block := d, off := 0 }), Value.int IntKind.i64 0, Value.int IntKind.i64 0,
                  Value.bool false, u46, u47, u48, u49, u50, u51, u52, u53, u54, u55, u56, u57, u58, u59, u60, u61, u62,
                  u63, u64, u65, u66, u67, u68, u69, u70, u71, u72, u73, u74, u75, u76, u77, u78, u79, u80, u81, u82,
                  u83, u84, u85, u86, u87, u88, u89, u90, u91, u92, u93, u94, u95, u96, u97, u98, u99, u100, u101, u102,
                  u103, u104, u105, u106, u107, u108, u109, u110, u111, u112, u113, u114, u115, u116, u117, u118, u119,
                  u120, u121, u122, u123, u124, u125, u126, u127, u128, u129, u130, u131, u132, u133, u134, u135, u136,
                  u137, u138, u139, u140, u141, u142, u143, u144, u145, u146, u147, u148, u149, u150, u151, u152, u153,
                  u154, u155, u156, u157, u158, u159, u160, u161, u162, u163, u164, u165, u166, u167, u168, u169, u170,
                  u171, u172, u173, u174, u175, u176, u177, u178, u179, u180, u181, u182, u183, u184, u185, u186, u187,
                  u188, u189, u190, u191, u192, u193, u194, u195, u196, u197, u198, u199, u200, u201, u202, u203, u204,
                  u205, u206, u207, u208, u209, u210, u211, u212, u213, u214, u215, u216, u217, u218, u219, u220, u221,
                  u222, u223, u224, u225, u226, u227, u228, u229, u230, u231, u232, u233, u234, u235, u236, u237, u238,
                  u239, u240, u241, u242, u243, u244, u245, u246, u247, u248, u249, u250, u251, u252, u253, u254, u255,
                  u256, u257, u258, u259, u260, u261, u262, u263, u264, u265, u266, u267, u268, u269, u270, u271, u272,
                  u273, u274, u275, u276, u277, u278, u279, u280, u281, u282, u283, u284, u285, u286, u287, u288, u289,
                  u290, u291, u292, u293, u294, u295, u296, u297, u298, u299, u300, u301, u302, u303, u304, u305, u306,
                  u307, u308, u309, u310, u311, u312, u313, u314, u315, u316, u317, u318, u319, u320, u321, u322, u323,
                  u324, u325, u326, u327, u328, u329, u330, u331, u332, u333, u334, u335, u336, u337, u338, u339, u340,
                  u341, u342, u343, u344, u345, u346, u347, u348, u349, u350, u351, u352, u353, u354, u355, u356, u357],
              defers := [] }) →
      J a' w')
    (_hJ1 : ∀ (a' : Act) (w' : World),
    (∃ u4 u8 u9 u13 u14 u15 u16 u17 u18 u19 u20 u21 u22 u23 u24 u25 u26 u27 u28 u29 u30 u31 u46 u47 u48 u49 u50 u51 u52
        u53 u54 u55 u56 u57 u58 u59 u60 u61 u62 u63 u64 u65 u66 u67 u68 u69 u70 u71 u72 u73 u74 u75 u76 u77 u78 u79 u80
        u81 u82 u83 u84 u85 u86 u87 u88 u89 u90 u91 u92 u93 u94 u95 u96 u97 u98 u99 u100 u101 u102 u103 u104 u105 u106
        u107 u108 u109 u110 u111 u112 u113 u114 u115 u116 u117 u118 u119 u120 u121 u122 u123 u124 u125 u126 u127 u128
        u129 u130 u131 u132 u133 u134 u135 u136 u137 u138 u139 u140 u141 u142 u143 u144 u145 u146 u147 u148 u149 u150
        u151 u152 u153 u154 u155 u156 u157 u158 u159 u160 u161 u162 u163 u164 u165 u166 u167 u168 u169 u170 u171 u172
        u173 u174 u175 u176 u177 u178 u179 u180 u181 u182 u183 u184 u185 u186 u187 u188 u189 u190 u191 u192 u193 u194
        u195 u196 u197 u198 u199 u200 u201 u202 u203 u204 u205 u206 u207 u208 u209 u210 u211 u212 u213 u214 u215 u216
        u217 u218 u219 u220 u221 u222 u223 u224 u225 u226 u227 u228 u229 u230 u231 u232 u233 u234 u235 u236 u237 u238
        u239 u240 u241 u242 u243 u244 u245 u246 u247 u248 u249 u250 u251 u252 u253 u254 u255 u256 u257 u258 u259 u260
        u261 u262 u263 u264 u265 u266 u267 u268 u269 u270 u271 u272 u273 u274 u275 u276 u277 u278 u279 u280 u281 u282
        u283 u284 u285 u286 u287 u288 u289 u290 u291 u292 u293 u294 u295 u296 u297 u298 u299 u300 u301 u302 u303 u304
        u305 u306 u307 u308 u309 u310 u311 u312 u313 u314 u315 u316 u317 u318 u319 u320 u321 u322 u323 u324 u325 u326
        u327 u328 u329 u330 u331 u332 u333 u334 u335 u336 u337 u338 u339 u340 u341 u342 u343 u344 u345 u346 u347 u348
        u349 u350 u351 u352 u353 u354 u355 u356 u357,
        (∃ c' W' F' m' r' xs' x1 x2,
            m' = u8 ∧
              r' = u9 ∧ xs'.length ≤ k + 1 ∧ c' ≤ k + 1 ∧ Hid (GmS w w' d q c' W' F' r' m' xs' x1 x2) ∧ Hid (Ev xs')) ∧
          a' =
            {
              tmps :=
                #[Value.int IntKind.u8 Q, Value.slice (some { block := b, off := off }) acts.length ca, undef, undef,
                  u4, Value.int IntKind.i64 ↑q, Value.pointer (some { block := d, off := 0 }), Value.int IntKind.i64 0,
                  u8, u9, Value.int IntKind.i64 ↑k, Value.pointer (some { block := ga, off := 0 }),
                  Value.int IntKind.u8 7, u13, u14, u15, u16, u17, u18, u19, u20, u21, u22, u23, u24, u25, u26, u27,
                  u28, u29, u30, u31, Value.bool true, Value.bool false, Value.bool false, Value.bool false,
                  Value.int IntKind.u8 Q, Value.int IntKind.i64 Q, Value.int IntKind.i64 ↑q,
                  Value.tuple #[Value.pointer (some { block := d, off := 0 }), Value.int IntKind.i64 0],
                  Value.int IntKind.i64 ↑q,
                  Value.tuple #[Value.pointer (some { block := d, off := 0 }), Value.int IntKind.i64 0],
                  Value.pointer (some { block := d, off := 0 }), Value.int IntKind.i64 0, Value.int IntKind.i64 0,
                  Value.bool false, u46, u47, u48, u49, u50, u51, u52, u53, u54, u55, u56, u57, u58, u59, u60, u61, u62,
                  u63, u64, u65, u66, u67, u68, u69, u70, u71, u72, u73, u74, u75, u76, u77, u78, u79, u80, u81, u82,
                  u83, u84, u85, u86, u87, u88, u89, u90, u91, u92, u93, u94, u95, u96, u97, u98, u99, u100, u101, u102,
                  u103, u104, u105, u106, u107, u108, u109, u110, u111, u112, u113, u114, u115, u116, u117, u118, u119,
                  u120, u121, u122, u123, u124, u125, u126, u127, u128, u129, u130, u131, u132, u133, u134, u135, u136,
                  u137, u138, u139, u140, u141, u142, u143, u144, u145, u146, u147, u148, u149, u150, u151, u152, u153,
                  u154, u155, u156, u157, u158, u159, u160, u161, u162, u163, u164, u165, u166, u167, u168, u169, u170,
                  u171, u172, u173, u174, u175, u176, u177, u178, u179, u180, u181, u182, u183, u184, u185, u186, u187,
                  u188, u189, u190, u191, u192, u193, u194, u195, u196, u197, u198, u199, u200, u201, u202, u203, u204,
                  u205, u206, u207, u208, u209, u210, u211, u212, u213, u214, u215, u216, u217, u218, u219, u220, u221,
                  u222, u223, u224, u225, u226, u227, u228, u229, u230, u231, u232, u233, u234, u235, u236, u237, u238,
                  u239, u240, u241, u242, u243, u244, u245, u246, u247, u248, u249, u250, u251, u252, u253, u254, u255,
                  u256, u257, u258, u259, u260, u261, u262, u263, u264, u265, u266, u267, u268, u269, u270, u271, u272,
                  u273, u274, u275, u276, u277, u278, u279, u280, u281, u282, u283, u284, u285, u286, u287, u288, u289,
                  u290, u291, u292, u293, u294, u295, u296, u297, u298, u299, u300, u301, u302, u303, u304, u305, u306,
                  u307, u308, u309, u310, u311, u312, u313, u314, u315, u316, u317, u318, u319, u320, u321, u322, u323,
                  u324, u325, u326, u327, u328, u329, u330, u331, u332, u333, u334, u335, u336, u337, u338, u339, u340,
                  u341, u342, u343, u344, u345, u346, u347, u348, u349, u350, u351, u352, u353, u354, u355, u356, u357],
              defers := [] }) →
      J1 a' w')
    (aK : Int) (hK0 : 0 ≤ aK) (hK1 : aK ≤ 255) (f1 : wa.cell? ⟨ga, 1, none⟩ = some (.int .u8 aK)) (orr : Option Addr) (cr : Nat) (hcr1 : xs.length ≤ cr) (hcr2 : cr ≤ maxLen) (HGA : Hid (GmS w wa d q c W F (.slice orr xs.length cr) mv xs u1 u2)) :
    Code.wp Try.prog playsSwitch (Exit.then K' (Exit.inBlock 1 (Exit.then K1 (Exit.then K2 (Exit.inBlock 0 (Exit.then K3 (bodyPost Try.prog Try.f3 fun e w' => e = .returned (.bool true) ∧ Below w.heap.size w w')))))))
      {
      tmps :=
        #[Value.int IntKind.u8 Q, Value.slice (some { block := b, off := off }) acts.length ca, undef, undef, u4,
          Value.int IntKind.i64 ↑q, Value.pointer (some { block := d, off := 0 }), Value.int IntKind.i64 0, mv,
          Value.slice orr xs.length cr, Value.int IntKind.i64 ↑k, Value.pointer (some { block := ga, off := 0 }),
          Value.int IntKind.u8 7, u13, u14, u15, u16, u17, u18, u19, u20, u21, u22, u23, u24, u25, u26, u27, u28, u29,
          u30, u31, Value.bool true, Value.bool false, Value.bool false, Value.bool false, Value.int IntKind.u8 Q,
          Value.int IntKind.i64 Q, Value.int IntKind.i64 ↑q,
          Value.tuple #[Value.pointer (some { block := d, off := 0 }), Value.int IntKind.i64 0],
          Value.int IntKind.i64 ↑q,
          Value.tuple #[Value.pointer (some { block := d, off := 0 }), Value.int IntKind.i64 0],
          Value.pointer (some { block := d, off := 0 }), Value.int IntKind.i64 0, Value.int IntKind.i64 0,
          Value.bool false, Value.int IntKind.i64 ↑k, Value.slice (some { block := b, off := off }) acts.length ca,
          Value.int IntKind.i64 ↑acts.length, Value.bool true, Value.bool true, Value.int IntKind.i64 ↑k,
          Value.bool true, Value.bool true, u54, u55, Value.slice (some { block := b, off := off }) acts.length ca,
          Value.int IntKind.i64 ↑k, Value.pointer (some { block := b, off := off + k * 4 }),
          Value.agg
            #[Value.int IntKind.u8 a.k, Value.int IntKind.u8 aK, Value.slice po a.ps.length pc, Value.string a.s],
          Value.pointer (some { block := ga, off := 0 }), Value.int IntKind.u8 a.k, Value.int IntKind.u8 7, u63, u64,
          u65, u66, u67, u68, u69, u70, u71, u72, u73, u74, u75, u76, u77, u78, u79, u80, u81, u82, u83, u84, u85, u86,
          u87, u88, u89, u90, u91, u92, u93, u94, u95, u96, u97, u98, u99, u100, u101, u102, u103, u104, u105, u106,
          u107, u108, u109, u110, u111, u112, u113, u114, u115, u116, u117, u118, u119, u120, u121, u122, u123, u124,
          u125, u126, u127, u128, u129, u130, u131, u132, u133, u134, u135, u136, u137, u138, u139, u140, u141, u142,
          u143, u144, u145, u146, u147, u148, u149, u150, u151, u152, u153, u154, u155, u156, u157, u158, u159, u160,
          u161, u162, u163, u164, u165, u166, u167, u168, u169, u170, u171, u172, u173, u174, u175, u176, u177, u178,
          u179, u180, u181, u182, u183, u184, u185, u186, u187, u188, u189, u190, u191, u192, u193, u194, u195, u196,
          u197, u198, u199, u200, u201, u202, u203, u204, u205, u206, u207, u208, u209, u210, u211, u212, u213, u214,
          u215, u216, u217, u218, u219, u220, u221, u222, u223, u224, u225, u226, u227, u228, u229, u230, u231, u232,
          u233, u234, u235, u236, u237, u238, u239, u240, u241, u242, u243, u244, u245, u246, u247, u248, u249, u250,
          u251, u252, u253, u254, u255, u256, u257, u258, u259, u260, u261, u262, u263, u264, u265, u266, u267, u268,
          u269, u270, u271, u272, u273, u274, u275, u276, u277, u278, u279, u280, u281, u282, u283, u284, u285, u286,
          u287, u288, u289, u290, u291, u292, u293, u294, u295, u296, u297, u298, u299, u300, u301, u302, u303, u304,
          u305, u306, u307, u308, u309, u310, u311, u312, u313, u314, u315, u316, u317, u318, u319, u320, u321, u322,
          u323, u324, u325, u326, u327, u328, u329, u330, u331, u332, u333, u334, u335, u336, u337, u338, u339, u340,
          u341, u342, u343, u344, u345, u346, u347, u348, u349, u350, u351, u352, u353, u354, u355, u356, u357],
      defers := [] }
    wa := by
  conv => arg 2; whnf
  by_cases hn0 : 0 < xs.length
  · have hn0i : (0 : Int) < (xs.length : Int) := by omega
    obtain ⟨j, hj, hjl⟩ : ∃ j : Nat, aK.tmod (xs.length : Int) = (j : Int) ∧ j < xs.length := ⟨(aK % (xs.length : Int)).toNat, by rw [Int.tmod_eq_emod_of_nonneg hK0]; have := Int.emod_nonneg aK (show (xs.length : Int) ≠ 0 by omega); omega, by have := Int.emod_lt_of_pos aK hn0i; have := Int.emod_nonneg aK (show (xs.length : Int) ≠ 0 by omega); omega⟩
    obtain ⟨g, hg⟩ : ∃ g, orr = some ⟨g, 0, none⟩ := by
      rcases HGA.out.p.row.2 with ⟨e, e0⟩ | ⟨g, cap, cur, e, _⟩
      · omega
      · simp only [Value.slice.injEq] at e
        exact ⟨g, e.1⟩
    subst hg
    obtain ⟨r1, w1, r2, w2, q1, q2, hG2⟩ := HGA.out.leave (j := j) (z := if cr = j + 1 then 0 else j + 1) rfl (by omega) hjl (by split <;> omega) hcr1
    have Q1 := Lib.hid q1
    have Q2 := Lib.hid q2
    have HG2 := Lib.hid hG2
    have HEV2 : Hid (Ev (xs.take j ++ xs.drop (j + 1))) := HEV.out.sub fun y hy => by
      rcases List.mem_append.1 hy with hy | hy
      · exact List.mem_of_mem_take hy
      · exact List.mem_of_mem_drop hy
    have hln : (xs.take j ++ xs.drop (j + 1)).length ≤ k + 1 := by rw [List.length_append, List.length_take, List.length_drop]; omega
    have hji : (j : Int) < (xs.length : Int) := by omega
    unfold maxLen at hcr2
    clear q1 q2 hG2 HGA _HPA _HFIT
    generalize (xs.take j ++ xs.drop (j + 1)) = ys at *
    by_cases hcj : cr = j + 1
    all_goals
      first | (rw [if_pos hcj] at Q2; subst hcj; rw [Nat.sub_self, show xs.length - (j + 1) = 0 by omega] at Q2) | rw [if_neg hcj] at Q2
      go_upto_region 17 with (at_builtin; refine wpList_append_known rfl (.tmp 72) (.tmp 75) 29 29 (by rfl) _ _ _ (by rfl) (by rfl) Q1.out ?_)
      go_wp2_with (at_builtin; first | refine wpList_append_known rfl (.tmp 72) (.tmp 75) 29 29 (by rfl) _ _ _ (by rfl) (by rfl) Q1.out ?_ | refine wpList_append_known rfl (.tmp 77) (.tmp 81) 29 29 (by rfl) _ _ _ (by rfl) (by rfl) Q2.out ?_)
      go_meet
      exact ⟨c, W, F, _, _, ys, u1, u2, rfl, rfl, hln, by omega, HG2.out, HEV2.out⟩
  · have hn0i : ¬ (0 : Int) < (xs.length : Int) := by omega
    go_wp2_with fail
    go_meet
    exact ⟨c, W, F, _, _, xs, u1, u2, rfl, rfl, by omega, by omega, HGA.out, HEV.out⟩
end Go.Proofs.Ytkdhajiplonloaa
