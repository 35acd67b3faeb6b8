/- HeapPlays: an arm of its switch (armP). -/
import Derived.Test.YtkdhajiplonloaaLArmA
namespace Go.Proofs.Ytkdhajiplonloaa
open Go.RowKit HeaM

set_option maxHeartbeats 8000000 in
set_option maxRecDepth 1000000 in
theorem armP (Q : Int) (acts : List Deed) (w : World) (q : Nat) (hql : q ≤ 256) (hq1 : 1 ≤ q) (_hqi : (q : Int) ≤ 256) (ca d : Nat) (K3 K2 K1 : Act → World → Prop)
    (u4 _u11 _u12 u13 u14 u15 u16 u17 u18 u19 u20 u21 u22 u23 u24 u25 u26 u27 u28 u29 u30 u31 _u46 _u47 _u48 _u49 _u50 _u51 _u52 _u53 u54 u55 _u56 _u57 _u58 _u59 _u60 _u61 _u62 u63 u64 u65 u66 u67 u68 u69 u70 u71 u72 u73 u74 u75 u76 u77 u78 u79 u80 u81 u82 u83 u84 u85 u86 u87 u88 u89 u90 u91 u92 u93 u94 u95 u96 u97 u98 u99 u100 u101 u102 u103 u104 u105 u106 u107 u108 u109 u110 u111 u112 u113 u114 u115 u116 u117 u118 u119 u120 u121 u122 u123 u124 u125 u126 u127 u128 u129 u130 u131 u132 u133 u134 u135 u136 u137 u138 u139 u140 u141 u142 u143 u144 u145 u146 u147 u148 u149 u150 u151 u152 u153 u154 u155 u156 u157 u158 u159 u160 u161 u162 u163 u164 u165 u166 u167 u168 u169 u170 u171 u172 u173 u174 u175 u176 u177 u178 u179 u180 u181 u182 u183 u184 u185 u186 u187 u188 u189 u190 u191 u192 u193 u194 u195 u196 u197 u198 u199 u200 u201 u202 u203 u204 u205 u206 u207 u208 u209 u210 u211 u212 u213 u214 u215 u216 u217 u218 u219 u220 u221 u222 u223 u224 u225 u226 u227 u228 u229 u230 u231 u232 u233 u234 u235 u236 u237 u238 u239 u240 u241 u242 u243 u244 u245 u246 u247 u248 u249 u250 u251 u252 u253 u254 u255 u256 u257 u258 u259 u260 u261 u262 u263 u264 u265 u266 u267 u268 u269 u270 u271 u272 u273 u274 u275 u276 u277 u278 u279 u280 u281 u282 u283 u284 u285 u286 u287 u288 u289 u290 u291 u292 u293 u294 u295 u296 u297 u298 u299 u300 u301 u302 u303 u304 u305 u306 u307 u308 u309 u310 u311 u312 u313 u314 u315 u316 u317 u318 u319 u320 u321 u322 u323 u324 u325 u326 u327 u328 u329 u330 u331 u332 u333 u334 u335 u336 u337 u338 u339 u340 u341 u342 u343 u344 u345 u346 u347 u348 u349 u350 u351 u352 u353 u354 u355 u356 u357 : Value)
    (m : Nat) (hm4 : m < 4) (k c : Nat) (W : List Nat) (F : List Bool) (mv : Value) (xs : List Nat) (u1 u2 : Value) (hk80 : k < 80) (hxl : xs.length ≤ k) (hck : c ≤ k) (HEV : Hid (Ev xs)) (b off : Nat) (a : Deed) (po : Option Addr) (pc : Nat) (_hpc1 : a.ps.length ≤ pc) (_hpc2 : pc ≤ maxLen)
    (J J1 K' : Act → World → Prop) (hMJ : ∀ (a' : Act) (w' : World), Met J a' w' → K' a' w') (hMJ1 : ∀ (a' : Act) (w' : World), Met J1 a' w' → K1 a' w') (HFIT : Hid (∀ (x : Int), x ∈ a.ps → -9223372036854775808 ≤ x ∧ x ≤ 9223372036854775807)) (wa : World)
    (HPA : Hid (RdV wa (.slice po a.ps.length pc) (a.ps.map fun x => .int .i64 x))) (ga : Nat) (f2 : wa.cell? ⟨ga, 2, none⟩ = some (.slice po a.ps.length pc)) (f3 : wa.cell? ⟨ga, 3, none⟩ = some (.string a.s)) (hgal : ga < wa.heap.size)
    (hJ : ∀ (a' : Act) (w' : World),
    (∃ u4 u8 u9 u13 u14 u15 u16 u17 u18 u19 u20 u21 u22 u23 u24 u25 u26 u27 u28 u29 u30 u31 u46 u47 u48 u49 u50 u51 u52
        u53 u54 u55 u56 u57 u58 u59 u60 u61 u62 u63 u64 u65 u66 u67 u68 u69 u70 u71 u72 u73 u74 u75 u76 u77 u78 u79 u80
        u81 u82 u83 u84 u85 u86 u87 u88 u89 u90 u91 u92 u93 u94 u95 u96 u97 u98 u99 u100 u101 u102 u103 u104 u105 u106
        u107 u108 u109 u110 u111 u112 u113 u114 u115 u116 u117 u118 u119 u120 u121 u122 u123 u124 u125 u126 u127 u128
        u129 u130 u131 u132 u133 u134 u135 u136 u137 u138 u139 u140 u141 u142 u143 u144 u145 u146 u147 u148 u149 u150
        u151 u152 u153 u154 u155 u156 u157 u158 u159 u160 u161 u162 u163 u164 u165 u166 u167 u168 u169 u170 u171 u172
        u173 u174 u175 u176 u177 u178 u179 u180 u181 u182 u183 u184 u185 u186 u187 u188 u189 u190 u191 u192 u193 u194
        u195 u196 u197 u198 u199 u200 u201 u202 u203 u204 u205 u206 u207 u208 u209 u210 u211 u212 u213 u214 u215 u216
        u217 u218 u219 u220 u221 u222 u223 u224 u225 u226 u227 u228 u229 u230 u231 u232 u233 u234 u235 u236 u237 u238
        u239 u240 u241 u242 u243 u244 u245 u246 u247 u248 u249 u250 u251 u252 u253 u254 u255 u256 u257 u258 u259 u260
        u261 u262 u263 u264 u265 u266 u267 u268 u269 u270 u271 u272 u273 u274 u275 u276 u277 u278 u279 u280 u281 u282
        u283 u284 u285 u286 u287 u288 u289 u290 u291 u292 u293 u294 u295 u296 u297 u298 u299 u300 u301 u302 u303 u304
        u305 u306 u307 u308 u309 u310 u311 u312 u313 u314 u315 u316 u317 u318 u319 u320 u321 u322 u323 u324 u325 u326
        u327 u328 u329 u330 u331 u332 u333 u334 u335 u336 u337 u338 u339 u340 u341 u342 u343 u344 u345 u346 u347 u348
        u349 u350 u351 u352 u353 u354 u355 u356 u357,
        (∃ c' W' F' m' r' xs' x1 x2,
            m' = u8 ∧
              r' = u9 ∧ xs'.length ≤ k + 1 ∧ c' ≤ k + 1 ∧ Hid (GmS w w' d q c' W' F' r' m' xs' x1 x2) ∧ Hid (Ev xs')) ∧
          a' =
            {
              tmps :=
                #[Value.int IntKind.u8 Q, Value.slice (some { block := b, off := off }) acts.length ca, undef, undef,
                  u4, Value.int IntKind.i64 ↑q, Value.pointer (some { block := d, off := 0 }), Value.int IntKind.i64 0,
                  u8, u9, Value.int IntKind.i64 ↑k, Value.pointer (some { block := ga, off := 0 }),
                  Value.int IntKind.u8 (m : Int), u13, u14, u15, u16, u17, u18, u19, u20, u21, u22, u23, u24, u25, u26, u27,
                  u28, u29, u30, u31, Value.bool true, Value.bool false, Value.bool false, Value.bool false,
                  Value.int IntKind.u8 Q, Value.int IntKind.i64 Q, Value.int IntKind.i64 ↑q,
                  Value.tuple #[Value.pointer (some { block := d, off := 0 }), Value.int IntKind.i64 0],
                  Value.int IntKind.i64 ↑q,
                  Value.tuple #[Value.pointer (some { block := d, off := 0 }), Value.int IntKind.i64 0],
                  Value.pointer (some { block := d, off := 0 }), Value.int IntKind.i64 0, Value.int IntKind.i64 0,
                  Value.bool false, u46, u47, u48, u49, u50, u51, u52, u53, u54, u55, u56, u57, u58, u59, u60, u61, u62,
                  u63, u64, u65, u66, u67, u68, u69, u70, u71, u72, u73, u74, u75, u76, u77, u78, u79, u80, u81, u82,
                  u83, u84, u85, u86, u87, u88, u89, u90, u91, u92, u93, u94, u95, u96, u97, u98, u99, u100, u101, u102,
                  u103, u104, u105, u106, u107, u108, u109, u110, u111, u112, u113, u114, u115, u116, u117, u118, u119,
                  u120, u121, u122, u123, u124, u125, u126, u127, u128, u129, u130, u131, u132, u133, u134, u135, u136,
                  u137, u138, u139, u140, u141, u142, u143, u144, u145, u146, u147, u148, u149, u150, u151, u152, u153,
                  u154, u155, u156, u157, u158, u159, u160, u161, u162, u163, u164, u165, u166, u167, u168, u169, u170,
                  u171, u172, u173, u174, u175, u176, u177, u178, u179, u180, u181, u182, u183, u184, u185, u186, u187,
                  u188, u189, u190, u191, u192, u193, u194, u195, u196, u197, u198, u199, u200, u201, u202, u203, u204,
                  u205, u206, u207, u208, u209, u210, u211, u212, u213, u214, u215, u216, u217, u218, u219, u220, u221,
                  u222, u223, u224, u225, u226, u227, u228, u229, u230, u231, u232, u233, u234, u235, u236, u237, u238,
                  u239, u240, u241, u242, u243, u244, u245, u246, u247, u248, u249, u250, u251, u252, u253, u254, u255,
                  u256, u257, u258, u259, u260, u261, u262, u263, u264, u265, u266, u267, u268, u269, u270, u271, u272,
                  u273, u274, u275, u276, u277, u278, u279, u280, u281, u282, u283, u284, u285, u286, u287, u288, u289,
                  u290, u291, u292, u293, u294, u295, u296, u297, u298, u299, u300, u301, u302, u303, u304, u305, u306,
                  u307, u308, u309, u310, u311, u312, u313, u314, u315, u316, u317, u318, u319, u320, u321, u322, u323,
                  u324, u325, u326, u327, u328, u329, u330, u331, u332, u333, u334, u335, u336, u337, u338, u339, u340,
                  u341, u342, u343, u344, u345, u346, u347, u348, u349, u350, u351, u352, u353, u354, u355, u356, u357],
              defers := [] }) →
      J a' w')
    (hJ1 : ∀ (a' : Act) (w' : World),
    (∃ u4 u8 u9 u13 u14 u15 u16 u17 u18 u19 u20 u21 u22 u23 u24 u25 u26 u27 u28 u29 u30 u31 u46 u47 u48 u49 u50 u51 u52
        u53 u54 u55 u56 u57 u58 u59 u60 u61 u62 u63 u64 u65 u66 u67 u68 u69 u70 u71 u72 u73 u74 u75 u76 u77 u78 u79 u80
        u81 u82 u83 u84 u85 u86 u87 u88 u89 u90 u91 u92 u93 u94 u95 u96 u97 u98 u99 u100 u101 u102 u103 u104 u105 u106
        u107 u108 u109 u110 u111 u112 u113 u114 u115 u116 u117 u118 u119 u120 u121 u122 u123 u124 u125 u126 u127 u128
        u129 u130 u131 u132 u133 u134 u135 u136 u137 u138 u139 u140 u141 u142 u143 u144 u145 u146 u147 u148 u149 u150
        u151 u152 u153 u154 u155 u156 u157 u158 u159 u160 u161 u162 u163 u164 u165 u166 u167 u168 u169 u170 u171 u172
        u173 u174 u175 u176 u177 u178 u179 u180 u181 u182 u183 u184 u185 u186 u187 u188 u189 u190 u191 u192 u193 u194
        u195 u196 u197 u198 u199 u200 u201 u202 u203 u204 u205 u206 u207 u208 u209 u210 u211 u212 u213 u214 u215 u216
        u217 u218 u219 u220 u221 u222 u223 u224 u225 u226 u227 u228 u229 u230 u231 u232 u233 u234 u235 u236 u237 u238
        u239 u240 u241 u242 u243 u244 u245 u246 u247 u248 u249 u250 u251 u252 u253 u254 u255 u256 u257 u258 u259 u260
        u261 u262 u263 u264 u265 u266 u267 u268 u269 u270 u271 u272 u273 u274 u275 u276 u277 u278 u279 u280 u281 u282
        u283 u284 u285 u286 u287 u288 u289 u290 u291 u292 u293 u294 u295 u296 u297 u298 u299 u300 u301 u302 u303 u304
        u305 u306 u307 u308 u309 u310 u311 u312 u313 u314 u315 u316 u317 u318 u319 u320 u321 u322 u323 u324 u325 u326
        u327 u328 u329 u330 u331 u332 u333 u334 u335 u336 u337 u338 u339 u340 u341 u342 u343 u344 u345 u346 u347 u348
        u349 u350 u351 u352 u353 u354 u355 u356 u357,
        (∃ c' W' F' m' r' xs' x1 x2,
            m' = u8 ∧
              r' = u9 ∧ xs'.length ≤ k + 1 ∧ c' ≤ k + 1 ∧ Hid (GmS w w' d q c' W' F' r' m' xs' x1 x2) ∧ Hid (Ev xs')) ∧
          a' =
            {
              tmps :=
                #[Value.int IntKind.u8 Q, Value.slice (some { block := b, off := off }) acts.length ca, undef, undef,
                  u4, Value.int IntKind.i64 ↑q, Value.pointer (some { block := d, off := 0 }), Value.int IntKind.i64 0,
                  u8, u9, Value.int IntKind.i64 ↑k, Value.pointer (some { block := ga, off := 0 }),
                  Value.int IntKind.u8 (m : Int), u13, u14, u15, u16, u17, u18, u19, u20, u21, u22, u23, u24, u25, u26, u27,
                  u28, u29, u30, u31, Value.bool true, Value.bool false, Value.bool false, Value.bool false,
                  Value.int IntKind.u8 Q, Value.int IntKind.i64 Q, Value.int IntKind.i64 ↑q,
                  Value.tuple #[Value.pointer (some { block := d, off := 0 }), Value.int IntKind.i64 0],
                  Value.int IntKind.i64 ↑q,
                  Value.tuple #[Value.pointer (some { block := d, off := 0 }), Value.int IntKind.i64 0],
                  Value.pointer (some { block := d, off := 0 }), Value.int IntKind.i64 0, Value.int IntKind.i64 0,
                  Value.bool false, u46, u47, u48, u49, u50, u51, u52, u53, u54, u55, u56, u57, u58, u59, u60, u61, u62,
                  u63, u64, u65, u66, u67, u68, u69, u70, u71, u72, u73, u74, u75, u76, u77, u78, u79, u80, u81, u82,
                  u83, u84, u85, u86, u87, u88, u89, u90, u91, u92, u93, u94, u95, u96, u97, u98, u99, u100, u101, u102,
                  u103, u104, u105, u106, u107, u108, u109, u110, u111, u112, u113, u114, u115, u116, u117, u118, u119,
                  u120, u121, u122, u123, u124, u125, u126, u127, u128, u129, u130, u131, u132, u133, u134, u135, u136,
                  u137, u138, u139, u140, u141, u142, u143, u144, u145, u146, u147, u148, u149, u150, u151, u152, u153,
                  u154, u155, u156, u157, u158, u159, u160, u161, u162, u163, u164, u165, u166, u167, u168, u169, u170,
                  u171, u172, u173, u174, u175, u176, u177, u178, u179, u180, u181, u182, u183, u184, u185, u186, u187,
                  u188, u189, u190, u191, u192, u193, u194, u195, u196, u197, u198, u199, u200, u201, u202, u203, u204,
                  u205, u206, u207, u208, u209, u210, u211, u212, u213, u214, u215, u216, u217, u218, u219, u220, u221,
                  u222, u223, u224, u225, u226, u227, u228, u229, u230, u231, u232, u233, u234, u235, u236, u237, u238,
                  u239, u240, u241, u242, u243, u244, u245, u246, u247, u248, u249, u250, u251, u252, u253, u254, u255,
                  u256, u257, u258, u259, u260, u261, u262, u263, u264, u265, u266, u267, u268, u269, u270, u271, u272,
                  u273, u274, u275, u276, u277, u278, u279, u280, u281, u282, u283, u284, u285, u286, u287, u288, u289,
                  u290, u291, u292, u293, u294, u295, u296, u297, u298, u299, u300, u301, u302, u303, u304, u305, u306,
                  u307, u308, u309, u310, u311, u312, u313, u314, u315, u316, u317, u318, u319, u320, u321, u322, u323,
                  u324, u325, u326, u327, u328, u329, u330, u331, u332, u333, u334, u335, u336, u337, u338, u339, u340,
                  u341, u342, u343, u344, u345, u346, u347, u348, u349, u350, u351, u352, u353, u354, u355, u356, u357],
              defers := [] }) →
      J1 a' w')
    (aK : Int) (_hK0 : 0 ≤ aK) (_hK1 : aK ≤ 255) (_f1 : wa.cell? ⟨ga, 1, none⟩ = some (.int .u8 aK)) (orr : Option Addr) (cr : Nat) (hcr1 : xs.length ≤ cr) (_hcr2 : cr ≤ maxLen) (HGA : Hid (GmS w wa d q c W F (.slice orr xs.length cr) mv xs u1 u2)) :
    Code.wp Try.prog playsSwitch (Exit.then K' (Exit.inBlock 1 (Exit.then K1 (Exit.then K2 (Exit.inBlock 0 (Exit.then K3 (bodyPost Try.prog Try.f3 fun e w' => e = .returned (.bool true) ∧ Below w.heap.size w w')))))))
      {
      tmps :=
        #[Value.int IntKind.u8 Q, Value.slice (some { block := b, off := off }) acts.length ca, undef, undef, u4,
          Value.int IntKind.i64 ↑q, Value.pointer (some { block := d, off := 0 }), Value.int IntKind.i64 0, mv,
          Value.slice orr xs.length cr, Value.int IntKind.i64 ↑k, Value.pointer (some { block := ga, off := 0 }),
          Value.int IntKind.u8 (m : Int), u13, u14, u15, u16, u17, u18, u19, u20, u21, u22, u23, u24, u25, u26, u27, u28, u29,
          u30, u31, Value.bool true, Value.bool false, Value.bool false, Value.bool false, Value.int IntKind.u8 Q,
          Value.int IntKind.i64 Q, Value.int IntKind.i64 ↑q,
          Value.tuple #[Value.pointer (some { block := d, off := 0 }), Value.int IntKind.i64 0],
          Value.int IntKind.i64 ↑q,
          Value.tuple #[Value.pointer (some { block := d, off := 0 }), Value.int IntKind.i64 0],
          Value.pointer (some { block := d, off := 0 }), Value.int IntKind.i64 0, Value.int IntKind.i64 0,
          Value.bool false, Value.int IntKind.i64 ↑k, Value.slice (some { block := b, off := off }) acts.length ca,
          Value.int IntKind.i64 ↑acts.length, Value.bool true, Value.bool true, Value.int IntKind.i64 ↑k,
          Value.bool true, Value.bool true, u54, u55, Value.slice (some { block := b, off := off }) acts.length ca,
          Value.int IntKind.i64 ↑k, Value.pointer (some { block := b, off := off + k * 4 }),
          Value.agg
            #[Value.int IntKind.u8 a.k, Value.int IntKind.u8 aK, Value.slice po a.ps.length pc, Value.string a.s],
          Value.pointer (some { block := ga, off := 0 }), Value.int IntKind.u8 a.k, Value.int IntKind.u8 (m : Int), u63, u64,
          u65, u66, u67, u68, u69, u70, u71, u72, u73, u74, u75, u76, u77, u78, u79, u80, u81, u82, u83, u84, u85, u86,
          u87, u88, u89, u90, u91, u92, u93, u94, u95, u96, u97, u98, u99, u100, u101, u102, u103, u104, u105, u106,
          u107, u108, u109, u110, u111, u112, u113, u114, u115, u116, u117, u118, u119, u120, u121, u122, u123, u124,
          u125, u126, u127, u128, u129, u130, u131, u132, u133, u134, u135, u136, u137, u138, u139, u140, u141, u142,
          u143, u144, u145, u146, u147, u148, u149, u150, u151, u152, u153, u154, u155, u156, u157, u158, u159, u160,
          u161, u162, u163, u164, u165, u166, u167, u168, u169, u170, u171, u172, u173, u174, u175, u176, u177, u178,
          u179, u180, u181, u182, u183, u184, u185, u186, u187, u188, u189, u190, u191, u192, u193, u194, u195, u196,
          u197, u198, u199, u200, u201, u202, u203, u204, u205, u206, u207, u208, u209, u210, u211, u212, u213, u214,
          u215, u216, u217, u218, u219, u220, u221, u222, u223, u224, u225, u226, u227, u228, u229, u230, u231, u232,
          u233, u234, u235, u236, u237, u238, u239, u240, u241, u242, u243, u244, u245, u246, u247, u248, u249, u250,
          u251, u252, u253, u254, u255, u256, u257, u258, u259, u260, u261, u262, u263, u264, u265, u266, u267, u268,
          u269, u270, u271, u272, u273, u274, u275, u276, u277, u278, u279, u280, u281, u282, u283, u284, u285, u286,
          u287, u288, u289, u290, u291, u292, u293, u294, u295, u296, u297, u298, u299, u300, u301, u302, u303, u304,
          u305, u306, u307, u308, u309, u310, u311, u312, u313, u314, u315, u316, u317, u318, u319, u320, u321, u322,
          u323, u324, u325, u326, u327, u328, u329, u330, u331, u332, u333, u334, u335, u336, u337, u338, u339, u340,
          u341, u342, u343, u344, u345, u346, u347, u348, u349, u350, u351, u352, u353, u354, u355, u356, u357],
      defers := [] }
    wa := by
  conv => arg 2; whnf
  have hm5i : (m : Int) < 5 := by omega
  have hm4b : ((m : Int) == 4) = false := by rw [beq_eq_false_iff_ne]; omega
  have hm4d : decide ((m : Int) < 4) = true := by simp; omega
  obtain ⟨kd, hkd, hcell⟩ : ∃ kd : Nat, (kd = 1 ∨ kd = 2 ∨ kd = 4 ∨ kd = 5 ∨ kd = 6) ∧ (wa.alloc (.cells #[.int .u8 1, .int .u8 2, .int .u8 4, .int .u8 5, .int .u8 3] 5)).cell? ⟨wa.heap.size, m, none⟩ = some (.int .u8 (kd : Int)) := by
    have hr := fun j => cell_of_row (wa.alloc (.cells #[.int .u8 1, .int .u8 2, .int .u8 4, .int .u8 5, .int .u8 3] 5)) wa.heap.size j _ _ (0, 0) (heap_alloc_new wa _)
    rcases (show m = 0 ∨ m = 1 ∨ m = 2 ∨ m = 3 by omega) with rfl | rfl | rfl | rfl
    · exact ⟨1, by omega, (hr 0).trans rfl⟩
    · exact ⟨2, by omega, (hr 1).trans rfl⟩
    · exact ⟨4, by omega, (hr 2).trans rfl⟩
    · exact ⟨5, by omega, (hr 3).trans rfl⟩
  have HKD := Lib.hid hkd
  have hm4' : m ≤ 100 := by omega
  clear hkd hm4
  go_upto_region 21 with (fail)
  obtain ⟨wb, hwb⟩ : ∃ wb, (wa.alloc (.cells #[.int .u8 1, .int .u8 2, .int .u8 4, .int .u8 5, .int .u8 3] 5)).alloc (.cells #[.int .u8 (kd : Int), .slice none 0 0, .string ⟨#[]⟩] 35) = wb := ⟨_, rfl⟩
  have hbb : Below wa.heap.size wa wb := by rw [← hwb]; exact ((Below.refl _ _).alloc (Nat.le_refl _) _).alloc (by simp) _
  have hob : wb.heap[wa.heap.size + 1]? = some (.cells #[.int .u8 (kd : Int), .slice none 0 0, .string ⟨#[]⟩] 35 (0, 0)) := by
    rw [← hwb]
    have := heap_alloc_new (wa.alloc (.cells #[.int .u8 1, .int .u8 2, .int .u8 4, .int .u8 5, .int .u8 3] 5)) (.cells #[.int .u8 (kd : Int), .slice none 0 0, .string ⟨#[]⟩] 35)
    simpa using this
  rw [hwb]
  have g2 : wb.cell? ⟨ga, 2, none⟩ = some (.slice po a.ps.length pc) := (hbb.cell hgal).trans f2
  have g3 : wb.cell? ⟨ga, 3, none⟩ = some (.string a.s) := (hbb.cell hgal).trans f3
  have HGB := Lib.hid (HGA.out.more hbb)
  have HGA0 : Hid (GmS w wa d q c W F (.slice orr xs.length cr) mv xs u1 u2) := HGA.out
  have hbab : Hid (Below wa.heap.size wa wb) := hbb
  have hba : Hid (wa.heap.size ≤ wb.heap.size) := hbb.size
  have HPB := Lib.hid (HPA.out.below hbb)
  have hgo : wa.heap.size + 1 < wb.heap.size := lt_of_block hob
  have hgog : ga < wb.heap.size := Nat.lt_of_lt_of_le hgal hbb.size
  have hne : ga ≠ wa.heap.size + 1 := by omega
  have hge : wa.heap.size ≤ wa.heap.size + 1 := by omega
  have HOB := Lib.hid hob
  clear hcell hob hwb _f1 f2 f3 HPA HGA hbb hgal
  generalize wa.heap.size + 1 = go at *
  go_upto_block 3 with fail
  go_cut [14] (fun pv wx => ∃ (ps : List Nat) (wy : World) (pw : Value), wy = wx ∧ pw = pv ∧ ps.length ≤ 100 ∧ Hid (OwnW wy wb.heap.size pw ps ∧ Below wb.heap.size wb wy ∧ ∀ y ∈ ps, (y % 2 = 1 ∨ isObj W F y = true) ∧ y < 18446744073709551616))
  case first =>
    as_aux_lemma =>
      go_wp2_with fail
      go_loopw [14, 15] (fun pv j wx => ∃ (i : Nat) (ps : List Nat), i ≤ 100 ∧ i ≤ a.ps.length ∧ ps.length = i ∧ j = .int .i64 i ∧ Hid (OwnW wx wb.heap.size pv ps ∧ Below wb.heap.size wb wx ∧ ∀ y ∈ ps, (y % 2 = 1 ∨ isObj W F y = true) ∧ y < 18446744073709551616)) (fun _ j _ => a.ps.length - (intOf j).toNat)
      case atStart => exact ⟨0, [], by omega, Nat.zero_le _, rfl, rfl, World.ownsRow_nil _ _ _ _, Below.refl _ _, fun y hy => by simp at hy⟩
      case round =>
        obtain ⟨i, ps, hi100, hile, hpl, rfl, HK⟩ := hrel
        have hb := HK.out.2.1
        have k2 : wr.cell? ⟨ga, 2, none⟩ = some (.slice po a.ps.length pc) := (hb.cell hgog).trans g2
        have k3 : wr.cell? ⟨ga, 3, none⟩ = some (.string a.s) := (hb.cell hgog).trans g3
        by_cases hlt : i < a.ps.length
        · have hlti : (i : Int) < (a.ps.length : Int) := by omega
          by_cases h6 : i < 6
          · have d6 : decide ((i : Int) < 6) = true := by simp; omega
            clear h6
            obtain ⟨y0, hy0⟩ : ∃ y0, a.ps[i]? = some y0 := ⟨_, List.getElem?_eq_getElem hlt⟩
            obtain ⟨A, cA, hpo, hcA⟩ := (HPB.out.below hb).at (k := i) (u := .int .i64 y0) (by rw [List.getElem?_map, hy0]; rfl)
            simp only [Value.slice.injEq] at hpo
            obtain ⟨rfl, -, rfl⟩ := hpo
            have HFY := Lib.hid (HFIT.out y0 (List.mem_of_getElem? hy0))
            have HPT := Lib.hid (lpart_t y0 _ xs wr (RdV.of_own (HGB.out.more hb).p.row) (by omega) HFY.out.1 HFY.out.2)
            clear hy0 hb
            go_wp2_with fail
            refine HPT.out.mono ?_
            rintro e w3 ⟨y, rfl, hy, rfl⟩
            dsimp only
            obtain ⟨hown, hb, hfit⟩ := HK.out
            have hyf : (y % 2 = 1 ∨ isObj W F y = true) ∧ y < 18446744073709551616 := by
              rcases hy with hy | hy
              · exact ⟨.inl hy.1, hy.2⟩
              · exact HGB.out.p.fit y hy
            obtain ⟨v2, w4, r4, o4, g4, _⟩ := append_one (ty := 29) (t := 29) wordInfo Try.underlying29 rfl (hown.alloc (.cells #[.int .u64 (y : Int)] 37)) (RdV.lit wr (.int .u64 (y : Int)) 37) (by intro u hu; simp at hu; subst hu; rfl) (by simp; omega) (by simp; omega) (by have := hb.size; simp; omega)
            have hfin : OwnW w4 wb.heap.size v2 (ps ++ [y]) ∧ Below wb.heap.size wb w4 ∧ ∀ z ∈ ps ++ [y], (z % 2 = 1 ∨ isObj W F z = true) ∧ z < 18446744073709551616 := by
              refine ⟨?_, (hb.alloc hb.size _).grown g4 (by have := hb.size; simp; omega) (fun j hj => (hown.lt j hj).1), fun z hz => ?_⟩
              · unfold OwnW
                rw [List.length_append, Ws_append]
                exact o4
              · rcases List.mem_append.1 hz with hz | hz
                · exact hfit z hz
                · simp at hz; subst hz; exact hyf
            have FIN := Lib.hid hfin
            have R4 := Lib.hid r4
            clear hy hyf hown hb hfit r4 o4 g4 hfin
            have hln : (ps ++ [y]).length = i + 1 := by rw [List.length_append, hpl]; rfl
            obtain ⟨ps2, hps2⟩ : ∃ ps2, ps ++ [y] = ps2 := ⟨_, rfl⟩
            rw [hps2] at FIN hln
            clear hps2
            go_wp2_with (at_builtin; refine wpList_append_known rfl (.tmp 111) (.tmp 119) 29 29 (by rfl) _ _ _ (by rfl) (by rfl) R4.out ?_)
            go_roundw
            case rel => exact ⟨i + 1, ps2, by have := of_decide_eq_true d6; omega, by omega, hln, by go_num, FIN.out⟩
            case measure => simp [intOf]; omega
          · have d6 : decide ((i : Int) < 6) = false := by simp; omega
            clear h6
            go_wp2_with fail
            go_meet
            exact ⟨ps, _, _, rfl, rfl, by omega, HK.out⟩
        · have hlti : ¬ (i : Int) < (a.ps.length : Int) := by omega
          go_wp2_with fail
          go_meet
          exact ⟨ps, _, _, rfl, rfl, by omega, HK.out⟩
  case rest =>
    as_aux_lemma =>
      obtain ⟨ps, wx, pv, rfl, rfl, hpl, HK⟩ := hcut
      obtain ⟨opv, cpv, hpv, hcp1, hcp2⟩ := own_slice HK.out.1
      subst hpv
      have hb := HK.out.2.1
      have k3 : wx.cell? ⟨ga, 3, none⟩ = some (.string a.s) := (hb.cell hgog).trans g3
      have hobx : wx.heap[go]? = some (.cells #[.int .u8 (kd : Int), .slice none 0 0, .string ⟨#[]⟩] 35 (0, 0)) := (hb.block _ hgo).trans HOB.out
      have HPW := Lib.hid HK.out.1
      have HPB1 : Hid (∀ j, (Value.slice opv ps.length cpv).ownBlock = some j → wb.heap.size ≤ j) := fun j hj => (HK.out.1.lt j hj).1
      have HBX : Hid (Below wa.heap.size wa wx) := hbab.out.trans (hb.mono hba.out)
      have HLW := Lib.hid (lwords_t _ ps wx (RdV.of_own HK.out.1) (by omega))
      have HGX := Lib.hid (HGB.out.more hb)
      have hgox : go < wx.heap.size := lt_of_block hobx
      have hgax : ga < wx.heap.size := by have := hb.size; omega
      have HOX := Lib.hid hobx
      have HFT : Hid (∀ y ∈ ps, (y % 2 = 1 ∨ isObj W F y = true) ∧ y < 18446744073709551616) := HK.out.2.2
      clear hb HK hobx g2 g3 HPB HOB HGB
      go_wp2_with fail
      refine HLW.out.mono ?_
      rintro e w2 ⟨sv, rfl, hos, hb2⟩
      dsimp only
      obtain ⟨os, cs, hsv, hcs1, hcs2⟩ := own_slice hos
      subst hsv
      have hob2 : w2.heap[go]? = some (.cells #[.int .u8 (kd : Int), .slice none 0 0, .string ⟨#[]⟩] 35 (0, 0)) := (hb2.block _ hgox).trans HOX.out
      have k3' : w2.cell? ⟨ga, 3, none⟩ = some (.string a.s) := (hb2.cell hgax).trans k3
      have hc1 : w2.cell? ⟨go, 1, none⟩ = some (.slice none 0 0) := (cell_of_row w2 _ 1 _ _ (0, 0) hob2).trans rfl
      have hfz : w2.frozen? ⟨go, 1, none⟩ = false := frozen_of_row w2 go 1 _ _ hob2
      have hbx2 := HBX.out.trans (hb2.mono HBX.out.size)
      by_cases hs : 2000 < a.s.size
      · have hsi : (2000 : Int) < (a.s.size : Int) := by omega
        have HBR := Lib.hid (HGA0.out.p.below.trans (hbx2.mono HGA0.out.p.below.size))
        clear hs
        go_wp2_with fail
        go_ret
        exact ⟨rfl, HBR.out⟩
      · have hsi : ¬ (2000 : Int) < (a.s.size : Int) := by omega
        clear hs
        obtain ⟨w3, hw3⟩ : ∃ w3, w2.setCell ⟨go, 1, none⟩ (.slice os ps.length cs) = w3 := ⟨_, rfl⟩
        have hb3 : Below wa.heap.size wa w3 := by rw [← hw3]; exact hbx2.setCell hge _
        have ho3 : w3.heap[go]? = some (.cells #[.int .u8 (kd : Int), .slice os ps.length cs, .string ⟨#[]⟩] 35 (0, 0)) := by
          rw [← hw3]
          exact (heap_setCell_same w2 go 1 _ _ _ hob2).trans rfl
        have hpl3 : OwnW w3 wb.heap.size (.slice opv ps.length cpv) ps := by
          rw [← hw3]
          refine ownsRow_setCell_other (own_below HPW.out hb2) (fun e => ?_) _
          have := (HPW.out.lt go e).1
          omega
        have hsl3 : OwnU w3 wx.heap.size (.slice os ps.length cs) ps := by
          rw [← hw3]
          refine ownsRow_setCell_other hos (fun e => ?_) _
          have := (hos.lt go e).1
          omega
        have hG3 := HGA0.out.more hb3
        have hpt : PtS w w3 d (.slice orr xs.length cr) (.slice opv ps.length cpv) u1 u2 ps := by
          refine ⟨own_base hpl3 (by have := HGA0.out.p.below.size; have := hba.out; omega), fun j hj hs => ?_, fun j hj e => ?_⟩
          · have h1 := (hpl3.lt j hj).1
            have h2 := HGA0.out.p.h.own_lt j hs
            have := hba.out
            omega
          · have h1 := (hpl3.lt j hj).1
            have h2 := (HGA0.out.p.row.lt j e).2
            have := hba.out
            omega
        have hm3 : ∃ mo mc, mv = .slice mo W.length mc := by
          obtain ⟨o, c', h, _⟩ := own_slice hG3.m
          exact ⟨o, c', h⟩
        obtain ⟨mo, mc, hmv⟩ := hm3
        subst hmv
        have HO3 := Lib.hid ho3
        have HSL3 := Lib.hid (own_base hsl3 (by have := HGA0.out.p.below.size; have := hba.out; have := HBX.out.size; omega) : OwnU w3 w.heap.size (.slice os ps.length cs) ps)
        have HG3 := Lib.hid hG3
        have HPW3 := Lib.hid hpl3
        have HWA3 := Lib.hid hb3
        have HW34 : Hid (wa.heap.size ≤ w3.heap.size) := hb3.size
        have HPT := Lib.hid hpt
        have hq0 := HGA0.out.p.fits
        have hN : ((1 + ps.length : Nat) : Int) = 1 + (ps.length : Int) := by omega
        have HNE := Lib.hid (refneed_t kd ps.length cs os ⟨#[]⟩ w3 (by omega) (by have := HKD.out; omega))
        have hkd3 : w3.cell? ⟨go, 0, none⟩ = some (.int .u8 (kd : Int)) := (cell_of_row w3 _ 0 _ _ (0, 0) ho3).trans rfl
        have hkd4 : w3.cell? ⟨go, 1, none⟩ = some (.slice os ps.length cs) := (cell_of_row w3 _ 1 _ _ (0, 0) ho3).trans rfl
        have hkd5 : w3.cell? ⟨go, 2, none⟩ = some (.string ⟨#[]⟩) := (cell_of_row w3 _ 2 _ _ (0, 0) ho3).trans rfl
        have hgo3 : go < w3.heap.size := lt_of_block ho3
        go_upto_region 32 with (fail)
        try rw [hw3]
        clear hw3 hb3 ho3 hpl3 hsl3 hG3 hpt hob2 hc1 hfz hbx2 k3 k3' HPW HLW
        go_wp2_with fail
        refine HNE.out.mono ?_
        rintro e w4 ⟨rfl, hb4⟩
        dsimp only
        obtain ⟨N, hNN⟩ : ∃ N, 1 + ps.length = N := ⟨_, rfl⟩
        rw [hNN]
        have HNN := Lib.hid hNN
        have HG4 := Lib.hid (HG3.out.more hb4)
        have hpw4 := own_below HPW3.out hb4
        have hpt4 : PtS w w4 d (.slice orr xs.length cr) (.slice opv ps.length cpv) u1 u2 ps := HPT.out.more hb4
        have HPT4 := Lib.hid hpt4
        have HO4 := Lib.hid ((hb4.block _ hgo3).trans HO3.out)
        have HSL4 := Lib.hid (own_below HSL3.out hb4)
        have o0 := (cell_of_row w4 _ 0 _ _ (0, 0) HO4.out).trans rfl
        have o1 := (cell_of_row w4 _ 1 _ _ (0, 0) HO4.out).trans rfl
        have o2 := (cell_of_row w4 _ 2 _ _ (0, 0) HO4.out).trans rfl
        have hgo4 : go < w4.heap.size := lt_of_block HO4.out
        have hNl : N ≤ 200 := by omega
        have HPW4 := Lib.hid hpw4
        have hw4a : Hid (wa.heap.size ≤ w4.heap.size) := by have := HW34.out; have := hb4.size; show _ ≤ _; omega
        have hwa4 : Hid (Below wa.heap.size wa w4) := HWA3.out.trans (hb4.mono HW34.out)
        clear hpw4 hb4 hNN hpt4 hkd3 hkd4 hkd5 HO3 HSL3 HG3 HPT HNE hN
        have e1 : IntKind.i64.wrap ((q : Int) - (W.length : Int)) = (q : Int) - (W.length : Int) := IntWalk.i64_in _ (by omega)
        have HNW : Hid (¬ Wrt d u1 u2 (.slice orr xs.length cr) (.slice opv ps.length cpv) go) := by
          rintro (h | h | h)
          · have := HGA0.out.p.h.own_lt go h
            omega
          · have := (HGA0.out.p.row.lt go h).2
            omega
          · have := HPB1.out go h
            omega
        by_cases hroom : W.length + N ≤ q
        · as_aux_lemma =>
          have hd : ¬ ((q : Int) - (W.length : Int) < (N : Int)) := by omega
          have hd2 : decide ((q : Int) - (W.length : Int) < (N : Int)) = false := by simp; omega
          go_wp2_with fail
          refine (lput_parts w w4 d q kd c N W F (.slice orr xs.length cr) (.slice opv ps.length cpv) xs ps HNN.out u1 u2 os ps.length cs ⟨#[]⟩ HG4.out.p HPT4.out HFT.out HKD.out (by omega) (by omega) (by omega)).mono ?_
          intro e w5 hP
          have hP2 := hP
          obtain ⟨he, hm5, x1, x2, hp5⟩ := put_yes HG4.out HPT4.out hroom hP
          obtain ⟨_, _, _, _, _, _, _, _, hk5, -, -⟩ := hP2
          subst he
          have ho5 : w5.heap[go]? = some (.cells #[.int .u8 (kd : Int), .slice os ps.length cs, .string ⟨#[]⟩] 35 (0, 0)) := (hk5.block go hgo4 HNW.out).trans HO4.out
          have hs5 := HG4.out.p.keepU HPT4.out hk5 HSL4.out
          have HP5 := Lib.hid hp5
          have HM5 := Lib.hid hm5
          have HS5 := Lib.hid hs5
          have p0 := (cell_of_row w5 _ 0 _ _ (0, 0) ho5).trans rfl
          have p1 := (cell_of_row w5 _ 1 _ _ (0, 0) ho5).trans rfl
          have p2 := (cell_of_row w5 _ 2 _ _ (0, 0) ho5).trans rfl
          have hgo5 : go < w5.heap.size := lt_of_block ho5
          have hbne : (((2 * W.length : Nat) : Int) != (W.length : Int) * 2) = false := by
            rw [show ((2 * W.length : Nat) : Int) = (W.length : Int) * 2 by omega]
            simp
          have e2 : IntKind.u64.wrap (W.length : Int) = (W.length : Int) := by rw [IntKind.wrap_u64]; omega
          have e3 : IntKind.u64.wrap ((W.length : Int) * 2) = (W.length : Int) * 2 := by rw [IntKind.wrap_u64]; omega
          clear hP hm5 hp5 hk5 ho5 hs5
          dsimp only
          go_wp2_with fail
          refine (refwords_parts w5.heap.size kd (.slice os ps.length cs) ps ⟨#[]⟩ _ (heap_alloc_new w5 _) ((RdV.of_own HS5.out).below ((Below.refl _ _).alloc (Nat.le_refl _) _)) (by have := HKD.out; omega) (by have := HKD.out; omega) (by omega)).mono ?_
          rintro e w6 ⟨vs, rfl, hos6, hb6⟩
          dsimp only
          have hb56 : Below w5.heap.size w5 w6 := ((Below.refl _ _).alloc (Nat.le_refl _) _).trans (hb6.mono (by simp))
          obtain ⟨sg, hsg⟩ : ∃ sg, (ps.length * 256 + kd) :: ps = sg := ⟨_, rfl⟩
          have hsgl : sg.length = 1 + ps.length := by rw [← hsg]; simp; omega
          have hsg0 : sg ≠ [] := by rw [← hsg]; simp
          have hp6 := HP5.out.more hb56
          rw [hsg] at hos6 hp6
          obtain ⟨mv2, w7, r7, hp7, hm7⟩ := hp6.grow (own_below HM5.out hb56) (RdV.of_own hos6) (by omega)
          obtain ⟨rv2, w8, r8, hG8⟩ := GmS.push (2 * W.length) (⟨hp7, hm7⟩ : GmS w w7 d q c (W ++ sg) (F ++ mks sg) (.slice orr xs.length cr) mv2 xs x1 x2) (by omega) ⟨.inr (isObj_new HG4.out.p.fine.good.len hsg0), by omega⟩
          have R7 := Lib.hid r7
          have R8 := Lib.hid r8
          have HG8 := Lib.hid hG8
          have HEV8 : Hid (Ev (xs ++ [2 * W.length])) := HEV.out.snoc (by omega)
          clear hb6 hb56 hos6 hsg hsg0 hp6 r7 hp7 hm7 r8 hG8
          go_wp2_with (at_builtin; first | refine wpList_append_known rfl (.tmp 228) (.tmp 231) 28 28 (by rfl) _ _ _ (by rfl) (by rfl) R7.out ?_ | refine wpList_append_known rfl (.tmp 233) (.tmp 235) 29 29 (by rfl) _ _ _ (by rfl) (by rfl) R8.out ?_)
          go_meet
          exact ⟨c, _, _, _, _, xs ++ [2 * W.length], x1, x2, rfl, rfl, by rw [List.length_append]; simp; omega, by omega, HG8.out, HEV8.out⟩
        · as_aux_lemma =>
          have hd : ((q : Int) - (W.length : Int) < (N : Int)) := by omega
          have hd2 : decide ((q : Int) - (W.length : Int) < (N : Int)) = true := by simp; omega
          have hxs80 : xs.length ≤ 80 := by omega
          have hxsi : (xs.length : Int) ≤ 80 := by omega
          go_wp2_with fail
          refine (lwords_t _ xs w4 (RdV.of_own HG4.out.p.row) (by omega)).mono ?_
          rintro e w5 ⟨rv5, rfl, ho5, hb5⟩
          dsimp only
          obtain ⟨al1, w6, r6, oa6, g6, _⟩ := append_one (ty := 28) (t := 28) (base := w5.heap.size) u64Info Try.underlying28 rfl (World.ownsRow_nil w5 _ _ _) (RdV.of_own ho5) (Ws_one _) (by rw [Ws_length]; omega) (by rw [Ws_length]; omega) (Nat.le_refl _)
          have hb6 : Below w5.heap.size w5 w6 := (Below.refl _ _).grown g6 (Nat.le_refl _) fun j hj => by simp [Value.ownBlock] at hj
          obtain ⟨al2, w7, r7, oa7, g7, _⟩ := append_one (ty := 28) (t := 28) u64Info Try.underlying28 rfl oa6 ((RdV.of_own HSL4.out).below (hb5.trans (hb6.mono hb5.size))) (Ws_one _) (by rw [Ws_length, Ws_length]; omega) (by rw [Ws_length, Ws_length]; omega) hb6.size
          have hb57 : Below w5.heap.size w5 w7 := hb6.grown g7 hb6.size fun j hj => (oa6.lt j hj).1
          have hb47 : Below w4.heap.size w4 w7 := hb5.trans (hb57.mono hb5.size)
          have oa7' : OwnU w7 w5.heap.size al2 (xs ++ ps) := by
            unfold OwnU
            rw [List.length_append, Ws_append]
            rw [Ws_length, Ws_length, Nat.zero_add] at oa7
            exact oa7
          have hall : ∀ x ∈ xs ++ ps, (x % 2 = 1 ∨ isObj W F x = true) ∧ x < 18446744073709551616 := fun x hx => by
            rcases List.mem_append.1 hx with hx | hx
            · exact HG4.out.p.fit x hx
            · exact HFT.out x hx
          have HRC := Lib.hid (refcollect_t _ al2 W F (xs ++ ps) w7 (RdV.of_own (HG4.out.more hb47).m) (RdV.of_own oa7') HG4.out.p.fine hall (by rw [List.length_append]; omega))
          have R6 := Lib.hid r6
          have R7 := Lib.hid r7
          have HB47 := Lib.hid hb47
          clear ho5 hb5 r6 oa6 g6 hb6 r7 oa7 g7 hb57 hb47 oa7' hall
          go_upto_region 40 with (first | (at_builtin; first | refine wpList_append_known rfl (.tmp 137) (.tmp 139) 28 28 (by rfl) _ _ _ (by rfl) (by rfl) R6.out ?_ | refine wpList_append_known rfl (.tmp 141) (.tmp 142) 28 28 (by rfl) _ _ _ (by rfl) (by rfl) R7.out ?_) | (go_at_call 9; refine HRC.out.mono ?_; rintro e w8 ⟨av, bv, rfl, hoa, hob, hne, hb8⟩; have HOA := Lib.hid hoa; have HOBB := Lib.hid hob; have HB8 := Lib.hid hb8; clear hoa hob hne hb8; dsimp only))
          have hRl : (colR W F (xs ++ ps)).length = xs.length + ps.length := by rw [colR_length, List.length_append]
          have hoB := HOBB.out
          unfold OwnU at hoB
          rw [hRl] at hoB
          have hb48 := HB47.out.trans (HB8.out.mono HB47.out.size)
          have HO8 := Lib.hid ((hb48.block _ hgo4).trans HO4.out)
          have o81 := (cell_of_row w8 _ 1 _ _ (0, 0) HO8.out).trans rfl
          have hfz8 : w8.frozen? ⟨go, 1, none⟩ = false := frozen_of_row w8 go 1 _ _ HO8.out
          have HB48 := Lib.hid hb48
          have HRL := Lib.hid hRl
          have HRD : Hid (RdW w8 bv (colR W F (xs ++ ps))) := RdV.of_own HOBB.out
          clear hb48 R6 R7 o0 o1 o2 hRl
          go_cut [18] (fun al wx => ∃ (opp : Option Addr) (cpp : Nat), bv = al ∧ (∀ A, opp = some A → w7.heap.size ≤ A.block) ∧ wx = w8.setCell ⟨go, 1, none⟩ (.slice opp ps.length cpp) ∧ Hid (∀ (wz : World) (bs : Nat), OwnU wz bs bv (colR W F (xs ++ ps)) → RdW wz (.slice opp ps.length cpp) ((colR W F (xs ++ ps)).drop xs.length)))
          case first =>
            as_aux_lemma =>
              have hx := hoB.2
              clear hoB HOBB
              have HLL : Hid ((colR W F (xs ++ ps)).length = xs.length + ps.length) := HRL.out
              generalize colR W F (xs ++ ps) = R at *
              try clear HPT4
              try clear HFT
              try clear HSL4
              try clear HG4
              try clear HNW
              try clear HGX
              try clear HGA0
              try clear HPB1
              try clear HEV
              try clear hxl
              try clear HRL
              try clear HRC
              try clear HOA
              try clear HO8
              try clear HO4
              generalize xs.length = n at *
              generalize ps.length = pn at *
              rcases hx with ⟨e0, h0⟩ | ⟨gb, cap, cur, e0, hgb, _, hcb, hmb, _⟩
              · subst e0
                obtain rfl : n = 0 := by omega
                obtain rfl : pn = 0 := by omega
                obtain rfl : R = [] := List.eq_nil_of_length_eq_zero (by have := HLL.out; omega)
                go_wp2_with fail
                go_meet
                exact ⟨none, 0, rfl, (fun A e => by cases e), rfl, fun _ _ _ => .inl ⟨rfl, rfl⟩⟩
              · subst e0
                unfold maxLen at hmb
                by_cases hcc : cap = n
                · subst hcc
                  obtain rfl : pn = 0 := by omega
                  go_wp2_with fail
                  go_meet
                  refine ⟨some ⟨gb, 0, none⟩, 0, rfl, (fun A e => by cases e; exact hgb), rfl, fun wz bs _ => .inr ⟨_, _, by rw [List.drop_of_length_le (by have := HLL.out; omega)]; rfl, by rw [List.drop_of_length_le (by have := HLL.out; omega)]; exact Nat.le_refl _, Nat.zero_le _, fun i u hu => ?_⟩⟩
                  rw [List.drop_of_length_le (by have := HLL.out; omega)] at hu
                  simp [Ws] at hu
                · go_wp2_with fail
                  go_meet
                  refine ⟨some ⟨gb, n, none⟩, cap - n, rfl, (fun A e => by cases e; exact hgb), rfl, ?_⟩
                  intro wz bs hz
                  have h1 := (RdV.of_own hz).drop (m := pn) n (by rw [Ws_length, HLL.out]; omega) (by rw [Ws_length, HLL.out]; omega)
                  rw [Nat.zero_add] at h1
                  show RdV wz _ (Ws (R.drop n))
                  unfold Ws at h1 ⊢
                  rw [List.map_drop]
                  exact h1
          case rest =>
            as_aux_lemma =>
              obtain ⟨opp, cpp, rfl, hopp, rfl, HRP⟩ := hcut
              obtain ⟨L, hL⟩ : ∃ L, (colS W F (xs ++ ps)).2.length = L := ⟨_, rfl⟩
              have hoA := HOA.out
              unfold OwnU at hoA
              rw [hL] at hoA
              obtain ⟨oav, cav, hav, _, _⟩ := own_slice hoA
              subst hav
              have hbase : w.heap.size ≤ w7.heap.size := by have := HG4.out.p.below.size; have := HB47.out.size; omega
              have hgo7 : go < w7.heap.size := by have := HB47.out.size; omega
              obtain ⟨w9, hw9⟩ : ∃ w9, w8.setCell ⟨go, 1, none⟩ (.slice opp ps.length cpp) = w9 := ⟨_, rfl⟩
              have ho9 : w9.heap[go]? = some (.cells #[.int .u8 (kd : Int), .slice opp ps.length cpp, .string ⟨#[]⟩] 35 (0, 0)) := by
                rw [← hw9]
                exact (heap_setCell_same w8 go 1 _ _ _ HO8.out).trans rfl
              have hb49 : Below wa.heap.size w4 w9 := by
                rw [← hw9]
                exact (HB48.out.mono (by have := HGA0.out.p.below.size; have := hw4a.out; omega)).setCell hge _
              have hG9 := HG4.out.p
              have hp9 : PlS w w9 d q c W F (.slice orr xs.length cr) xs u1 u2 := HGA0.out.p.more (hwa4.out.trans hb49)
              have ha9 : OwnU w9 w.heap.size (.slice oav L cav) (colS W F (xs ++ ps)).2 := by
                rw [← hw9]
                have h1 := own_base HOA.out hbase
                refine ownsRow_setCell_other h1 (fun e => ?_) _
                have := (HOA.out.lt go e).1
                omega
              have hb9 : OwnU w9 w.heap.size bv (colR W F (xs ++ ps)) := by
                rw [← hw9]
                refine ownsRow_setCell_other (own_base HOBB.out hbase) (fun e => ?_) _
                have := (HOBB.out.lt go e).1
                omega
              have hpw9 : OwnW w9 wb.heap.size (.slice opv ps.length cpv) ps := by
                rw [← hw9]
                refine ownsRow_setCell_other (own_below HPW4.out HB48.out) (fun e => ?_) _
                have := HPB1.out go e
                omega
              have hpt9 : PtS w w9 d (.slice orr xs.length cr) (.slice opv ps.length cpv) u1 u2 ps := ⟨own_base hpw9 (by have := HGA0.out.p.below.size; have := hba.out; omega), HPT4.out.rd, HPT4.out.ne⟩
              have HP9 := Lib.hid hp9
              have HA9 := Lib.hid ha9
              have HB9 := Lib.hid hb9
              have HPT9 := Lib.hid hpt9
              have HO9 := Lib.hid ho9
              have o90 := (cell_of_row w9 _ 0 _ _ (0, 0) ho9).trans rfl
              have o91 := (cell_of_row w9 _ 1 _ _ (0, 0) ho9).trans rfl
              have o92 := (cell_of_row w9 _ 2 _ _ (0, 0) ho9).trans rfl
              have hgo9 : go < w9.heap.size := lt_of_block ho9
              clear hp9 ha9 hb9 hpt9 hpw9 ho9 hb49 hG9 hoA hoB o81 hfz8 hopp HRC HRD
              rw [hw9]
              clear hw9
              go_wp2_with fail
              refine (lput_parts w w9 d q kd c N W F (.slice orr xs.length cr) (.slice opv ps.length cpv) xs ps HNN.out u1 u2 opp ps.length cpp ⟨#[]⟩ HP9.out HPT9.out HFT.out HKD.out (by omega) (by omega) (by omega)).mono ?_
              intro e w10 hP
              have hP2 := hP
              obtain ⟨ha10, hb10, hres⟩ := put_col HP9.out HPT9.out HA9.out HB9.out (by omega) hP
              obtain ⟨_, _, _, _, _, _, _, _, hk10, -, -⟩ := hP2
              have ho10 : w10.heap[go]? = some (.cells #[.int .u8 (kd : Int), .slice opp ps.length cpp, .string ⟨#[]⟩] 35 (0, 0)) := (hk10.block go hgo9 HNW.out).trans HO9.out
              obtain ⟨T, hT⟩ : ∃ T, (colR W F (xs ++ ps)).take xs.length = T := ⟨_, rfl⟩
              obtain ⟨D, hD⟩ : ∃ D, (colR W F (xs ++ ps)).drop xs.length = D := ⟨_, rfl⟩
              obtain ⟨W2, hW2⟩ : ∃ W2, (colS W F (xs ++ ps)).2 = W2 := ⟨_, rfl⟩
              obtain ⟨F2, hF2⟩ : ∃ F2, Go.Proofs.Ytkdhajiplonloaa.mk W (colS W F (xs ++ ps)).1 = F2 := ⟨_, rfl⟩
              rw [hT, hD, hW2, hF2] at hres
              rw [hW2] at hL ha10
              have hTl : T.length = xs.length := by rw [← hT, List.length_take, HRL.out]; omega
              have hDl : D.length = ps.length := by rw [← hD, List.length_drop, HRL.out]; omega
              have hcom : ∃ (X E : Int), e = .returned (.tuple #[.int .u64 X, .int .i64 E]) ∧ OwnW w10 w.heap.size (.slice orr xs.length cr) T ∧ Below w.heap.size w w10 ∧
                  ((L + N ≤ q ∧ X = ((2 * L : Nat) : Int) ∧ E = 0 ∧ ∃ x1 x2, PlS w w10 d q (c + 1) (W2 ++ (D.length * 256 + kd) :: D) (F2 ++ mks ((D.length * 256 + kd) :: D)) (.slice orr xs.length cr) T x1 x2) ∨
                   (q < L + N ∧ X = 0 ∧ E = 11 ∧ ∃ x1 x2, PlS w w10 d q (c + 1) W2 F2 (.slice orr xs.length cr) T x1 x2)) := by
                rw [hL] at hres
                rcases hres with ⟨h1, h2, x1, x2, h3⟩ | ⟨h1, h2, x1, x2, h3⟩
                · exact ⟨_, _, h2, h3.row, h3.below, .inl ⟨h1, rfl, rfl, x1, x2, h3⟩⟩
                · exact ⟨_, _, h2, h3.row, h3.below, .inr ⟨h1, rfl, rfl, x1, x2, h3⟩⟩
              obtain ⟨X, E, he, hrow, hbw, hcs⟩ := hcom
              subst he
              have HLW10 : Hid (∀ W1, Below w10.heap.size w10 W1 → Calls Try.prog 7 #[.slice orr xs.length cr] W1 fun e w' => ∃ v', e = .returned v' ∧ RdW w' v' T ∧ Below w10.heap.size w10 w') := fun W1 hb => by
                refine (lwords_t _ T W1 (RdV.of_own (own_below hrow hb)) (by omega)).mono ?_
                rintro e w' ⟨v', rfl, ho, hb2⟩
                exact ⟨v', rfl, RdV.of_own ho, hb.trans (hb2.mono hb.size)⟩
              have HCS := Lib.hid hcs
              have HA10 := Lib.hid ha10
              have HB10 := Lib.hid hb10
              have HO10 := Lib.hid ho10
              have HT := Lib.hid hT
              have HD2 := Lib.hid hD
              have HW2 := Lib.hid hW2
              have HF2 := Lib.hid hF2
              have HL := Lib.hid hL
              clear hP ha10 hb10 hres hk10 hcs hrow hbw o90 o91 o92 hT hD hW2 hF2 hL ho10
              dsimp only
              go_upto_region 42 with (fail)
              go_cut [174] (fun b wx => ∃ wy, wy = wx ∧ b = .bool false ∧ Hid (Below w10.heap.size w10 wy))
              case first =>
                as_aux_lemma =>
                  have hx := HB10.out.2
                  have hTT : T = (colR W F (xs ++ ps)).take xs.length := HT.out.symm
                  have hRL := HRL.out
                  have hB := HB10.out
                  unfold OwnU at hB
                  rw [hRL] at hx hB
                  have hsm : ∀ (sl : Value), RdW w10 sl T → ∀ W1 v, Below w10.heap.size w10 W1 → RdW W1 v T → Calls Try.prog 11 #[v, sl] W1 fun e w' => e = .returned (.bool true) ∧ Below w10.heap.size w10 w' := fun sl hsl W1 v hb hv => by
                    refine (same_yes v sl T W1 hv (hsl.below hb) (by omega)).mono ?_
                    rintro e w' ⟨rfl, hb2⟩
                    exact ⟨rfl, hb.trans (hb2.mono hb.size)⟩
                  rcases hx with ⟨e0, h0⟩ | ⟨gb, cap, cur, e0, hgb, _, hcb, hmb, _⟩
                  · subst e0
                    have hT0 : T = [] := List.eq_nil_of_length_eq_zero (by omega)
                    subst hT0
                    have HSM := Lib.hid (hsm (.slice none 0 0) (.inl ⟨rfl, rfl⟩))
                    clear hsm hB hTT hRL
                    try clear HT
                    try clear HCS
                    try clear HEV
                    try clear HG4
                    try clear HGA0
                    generalize xs.length = n at *
                    obtain rfl : n = 0 := by omega
                    go_region_with (first
                      | (go_at_call 7; refine (HLW10.out _ (by first | exact Below.refl _ _ | exact (Below.refl _ _).drew)).mono ?_; rintro e w11 ⟨v, rfl, hv, hb11⟩; have HV := Lib.hid hv; have HB11 := Lib.hid hb11; clear hv hb11; dsimp only)
                      | (go_at_call 11; refine (HSM.out _ _ (by first | exact HB11.out | exact HB11.out.drew) (by first | exact HV.out | exact HV.out.below (Below.refl _ _).drew)).mono ?_; rintro e w12 ⟨rfl, hb12⟩; have HB12 := Lib.hid hb12; clear hb12; dsimp only))
                    all_goals
                      go_wp2_with fail
                      go_meet
                      exact ⟨_, rfl, rfl, HB12.out⟩
                  · subst e0
                    have htk := (RdV.of_own hB).take xs.length (by rw [Ws_length, hRL]; omega)
                    have hsl : RdW w10 (.slice (some ⟨gb, 0, none⟩) xs.length cap) T := by
                      rw [hTT]
                      show RdV w10 _ (Ws _)
                      unfold Ws at htk ⊢
                      rw [List.map_take]
                      exact htk
                    have HSM := Lib.hid (hsm _ hsl)
                    unfold maxLen at hmb
                    clear hsm hsl htk hB hTT hRL
                    go_region_with (first
                      | (go_at_call 7; refine (HLW10.out _ (by first | exact Below.refl _ _ | exact (Below.refl _ _).drew)).mono ?_; rintro e w11 ⟨v, rfl, hv, hb11⟩; have HV := Lib.hid hv; have HB11 := Lib.hid hb11; clear hv hb11; dsimp only)
                      | (go_at_call 11; refine (HSM.out _ _ (by first | exact HB11.out | exact HB11.out.drew) (by first | exact HV.out | exact HV.out.below (Below.refl _ _).drew)).mono ?_; rintro e w12 ⟨rfl, hb12⟩; have HB12 := Lib.hid hb12; clear hb12; dsimp only))
                    all_goals
                      go_wp2_with fail
                      go_meet
                      exact ⟨_, rfl, rfl, HB12.out⟩
              case rest =>
                as_aux_lemma =>
                  obtain ⟨w11, rfl, rfl, HBE⟩ := hcut
                  have hli : (L : Int) ≤ 10000000 := by
                    have h1 := (HG4.out.p.fine.col (xs ++ ps)).good.max
                    rw [HW2.out, HL.out] at h1
                    omega
                  have e4 : IntKind.i64.wrap ((q : Int) - (L : Int)) = (q : Int) - (L : Int) := IntWalk.i64_in _ (by omega)
                  have ho11 := (HBE.out.block _ (lt_of_block HO10.out)).trans HO10.out
                  have HEV2 : Hid (Ev T) := by rw [← HT.out]; exact HEV.out.col HG4.out.p.fine ps
                  have hfl : F2.length = W2.length := by
                    have h1 := (HG4.out.p.fine.col (xs ++ ps)).good.len
                    rw [HW2.out, HF2.out] at h1
                    exact h1
                  have HFL := Lib.hid hfl
                  clear hfl
                  rcases HCS.out with ⟨hr, rfl, rfl, x1, x2, hp⟩ | ⟨hr, rfl, rfl, x1, x2, hp⟩
                  · as_aux_lemma =>
                      have hd4 : ¬ ((q : Int) - (L : Int) < (N : Int)) := by omega
                      have hd5 : decide ((q : Int) - (L : Int) < (N : Int)) = false := by simp; omega
                      have hbne : (((2 * L : Nat) : Int) != (L : Int) * 2) = false := by
                        rw [show ((2 * L : Nat) : Int) = (L : Int) * 2 by omega]
                        simp
                      have e2 : IntKind.u64.wrap (L : Int) = (L : Int) := by rw [IntKind.wrap_u64]; omega
                      have e3 : IntKind.u64.wrap ((L : Int) * 2) = (L : Int) * 2 := by rw [IntKind.wrap_u64]; omega
                      have p0 := (cell_of_row w11 _ 0 _ _ (0, 0) ho11).trans rfl
                      have p1 := (cell_of_row w11 _ 1 _ _ (0, 0) ho11).trans rfl
                      have p2 := (cell_of_row w11 _ 2 _ _ (0, 0) ho11).trans rfl
                      have hgo11 : go < w11.heap.size := lt_of_block ho11
                      have HP11 := Lib.hid (hp.more HBE.out)
                      have HA11 := Lib.hid (own_below HA10.out HBE.out)
                      have HD11 : Hid (RdW w11 (.slice opp ps.length cpp) D) := by
                        have h1 := HRP.out _ _ (own_below HB10.out HBE.out)
                        rw [HD2.out] at h1
                        exact h1
                      clear hp ho11 hr
                      go_wp2_with fail
                      refine (refwords_parts w11.heap.size kd (.slice opp ps.length cpp) D ⟨#[]⟩ _ (heap_alloc_new w11 _) (HD11.out.below ((Below.refl _ _).alloc (Nat.le_refl _) _)) (by have := HKD.out; omega) (by have := HKD.out; omega) (by omega)).mono ?_
                      rintro e w12 ⟨vs, rfl, hos6, hb6⟩
                      dsimp only
                      have hb56 : Below w11.heap.size w11 w12 := ((Below.refl _ _).alloc (Nat.le_refl _) _).trans (hb6.mono (by simp))
                      obtain ⟨sg, hsg⟩ : ∃ sg, (D.length * 256 + kd) :: D = sg := ⟨_, rfl⟩
                      have hsgl : sg.length = 1 + ps.length := by rw [← hsg]; simp; omega
                      have hsg0 : sg ≠ [] := by rw [← hsg]; simp
                      have hp6 := HP11.out.more hb56
                      rw [hsg] at hos6 hp6
                      have hl2 : W2.length = L := HL.out
                      have hm6 := own_below HA11.out hb56
                      obtain ⟨mv2, w13, r7, hp7, hm7⟩ := hp6.grow hm6 (RdV.of_own hos6) (by omega)
                      obtain ⟨rv2, w14, r8, hG8⟩ := GmS.push (2 * L) (⟨hp7, hm7⟩ : GmS w w13 d q (c + 1) (W2 ++ sg) (F2 ++ mks sg) (.slice orr xs.length cr) mv2 T x1 x2) (by omega) ⟨.inr (by rw [← hl2]; exact isObj_new HFL.out hsg0), by omega⟩
                      have R7 := Lib.hid r7
                      have R8 := Lib.hid r8
                      have HG8 := Lib.hid hG8
                      have HEV8 : Hid (Ev (T ++ [2 * L])) := HEV2.out.snoc (by omega)
                      clear hb6 hb56 hos6 hsg hsg0 hp6 r7 hp7 hm6 hm7 r8 hG8 hl2
                      go_wp2_with (at_builtin; first | refine wpList_append_known rfl (.tmp 201) (.tmp 204) 28 28 (by rfl) _ _ _ (by rfl) (by rfl) R7.out ?_ | refine wpList_append_known rfl (.tmp 206) (.tmp 208) 29 29 (by rfl) _ _ _ (by rfl) (by rfl) R8.out ?_)
                      go_meet
                      exact ⟨c + 1, _, _, _, _, T ++ [2 * L], x1, x2, rfl, rfl, by rw [List.length_append]; simp; omega, by omega, HG8.out, HEV8.out⟩
                  · as_aux_lemma =>
                      have hd4 : ((q : Int) - (L : Int) < (N : Int)) := by omega
                      have hd5 : decide ((q : Int) - (L : Int) < (N : Int)) = true := by simp; omega
                      have hp11 := hp.more HBE.out
                      have ha11 : OwnU w11 w.heap.size (.slice oav L cav) W2 := own_below HA10.out HBE.out
                      have hG11 : GmS w w11 d q (c + 1) W2 F2 (.slice orr xs.length cr) (.slice oav L cav) T x1 x2 := ⟨hp11, ha11⟩
                      obtain ⟨a1, a2, a3, a4, a5, a6⟩ := hG11.asks (by omega)
                      have A1 := Lib.hid a1
                      have A2 := Lib.hid a2
                      have A3 := Lib.hid a3
                      have HG11 := Lib.hid hG11
                      clear hp hp11 ha11 hG11 a1 a2 a3 a4 a5 a6 ho11 hr
                      go_wp2_with fail
                      refine (A1.out _ (by first | exact Below.refl _ _ | exact (Below.refl _ _).drew)).mono ?_
                      rintro e w12 ⟨z3, rfl, hz3, hb3⟩
                      dsimp only
                      have HZ3 := Lib.hid hz3
                      have HB3 := Lib.hid hb3
                      clear hz3 hb3
                      go_wp2_with fail
                      refine (A2.out _ _ (by first | exact HB3.out | exact HB3.out.drew) (by first | exact HZ3.out | exact HZ3.out.below (Below.refl _ _).drew)).mono ?_
                      rintro e w13 ⟨z4, rfl, hz4, hb4⟩
                      dsimp only
                      have HZ4 := Lib.hid hz4
                      have HB4 := Lib.hid hb4
                      clear hz4 hb4
                      go_wp2_with fail
                      refine (A3.out _ _ (by first | exact HB4.out | exact HB4.out.drew) (by first | exact HZ4.out | exact HZ4.out.below (Below.refl _ _).drew)).mono ?_
                      rintro e w14 ⟨rfl, hb5⟩
                      dsimp only
                      have HB5 := Lib.hid hb5
                      clear hb5
                      go_wp2_with fail
                      go_meet
                      exact ⟨c + 1, _, _, _, _, T, x1, x2, rfl, rfl, by omega, by omega, HG11.out.more HB5.out, HEV2.out⟩
  end Go.Proofs.Ytkdhajiplonloaa
