/- HeapPlays: an arm of its switch (arm5). -/
import Derived.Test.YtkdhajiplonloaaLArmA
namespace Go.Proofs.Ytkdhajiplonloaa
open Go.RowKit HeaM

set_option maxHeartbeats 8000000 in
set_option maxRecDepth 1000000 in
theorem arm5 (Q : Int) (acts : List Deed) (w : World) (q : Nat) (_hql : q ≤ 256) (_hq1 : 1 ≤ q) (_hqi : (q : Int) ≤ 256) (ca d : Nat) (K3 K2 K1 : Act → World → Prop)
    (u4 _u11 _u12 u13 u14 u15 u16 u17 u18 u19 u20 u21 u22 u23 u24 u25 u26 u27 u28 u29 u30 u31 _u46 _u47 _u48 _u49 _u50 _u51 _u52 _u53 u54 u55 _u56 _u57 _u58 _u59 _u60 _u61 _u62 u63 u64 u65 u66 u67 u68 u69 u70 u71 u72 u73 u74 u75 u76 u77 u78 u79 u80 u81 u82 u83 u84 u85 u86 u87 u88 u89 u90 u91 u92 u93 u94 u95 u96 u97 u98 u99 u100 u101 u102 u103 u104 u105 u106 u107 u108 u109 u110 u111 u112 u113 u114 u115 u116 u117 u118 u119 u120 u121 u122 u123 u124 u125 u126 u127 u128 u129 u130 u131 u132 u133 u134 u135 u136 u137 u138 u139 u140 u141 u142 u143 u144 u145 u146 u147 u148 u149 u150 u151 u152 u153 u154 u155 u156 u157 u158 u159 u160 u161 u162 u163 u164 u165 u166 u167 u168 u169 u170 u171 u172 u173 u174 u175 u176 u177 u178 u179 u180 u181 u182 u183 u184 u185 u186 u187 u188 u189 u190 u191 u192 u193 u194 u195 u196 u197 u198 u199 u200 u201 u202 u203 u204 u205 u206 u207 u208 u209 u210 u211 u212 u213 u214 u215 u216 u217 u218 u219 u220 u221 u222 u223 u224 u225 u226 u227 u228 u229 u230 u231 u232 u233 u234 u235 u236 u237 u238 u239 u240 u241 u242 u243 u244 u245 u246 u247 u248 u249 u250 u251 u252 u253 u254 u255 u256 u257 u258 u259 u260 u261 u262 u263 u264 u265 u266 u267 u268 u269 u270 u271 u272 u273 u274 u275 u276 u277 u278 u279 u280 u281 u282 u283 u284 u285 u286 u287 u288 u289 u290 u291 u292 u293 u294 u295 u296 u297 u298 u299 u300 u301 u302 u303 u304 u305 u306 u307 u308 u309 u310 u311 u312 u313 u314 u315 u316 u317 u318 u319 u320 u321 u322 u323 u324 u325 u326 u327 u328 u329 u330 u331 u332 u333 u334 u335 u336 u337 u338 u339 u340 u341 u342 u343 u344 u345 u346 u347 u348 u349 u350 u351 u352 u353 u354 u355 u356 u357 : Value)
    (k c : Nat) (W : List Nat) (F : List Bool) (mv : Value) (xs : List Nat) (u1 u2 : Value) (hk80 : k < 80) (hxl : xs.length ≤ k) (hck : c ≤ k) (HEV : Hid (Ev xs)) (b off : Nat) (a : Deed) (po : Option Addr) (pc : Nat) (_hpc1 : a.ps.length ≤ pc) (_hpc2 : pc ≤ maxLen)
    (J J1 K' : Act → World → Prop) (hMJ : ∀ (a' : Act) (w' : World), Met J a' w' → K' a' w') (hMJ1 : ∀ (a' : Act) (w' : World), Met J1 a' w' → K1 a' w') (HFIT : Hid (∀ (x : Int), x ∈ a.ps → -9223372036854775808 ≤ x ∧ x ≤ 9223372036854775807)) (wa : World)
    (HPA : Hid (RdV wa (.slice po a.ps.length pc) (a.ps.map fun x => .int .i64 x))) (ga : Nat) (f2 : wa.cell? ⟨ga, 2, none⟩ = some (.slice po a.ps.length pc)) (_f3 : wa.cell? ⟨ga, 3, none⟩ = some (.string a.s)) (hgal : ga < wa.heap.size)
    (hJ : ∀ (a' : Act) (w' : World),
    (∃ u4 u8 u9 u13 u14 u15 u16 u17 u18 u19 u20 u21 u22 u23 u24 u25 u26 u27 u28 u29 u30 u31 u46 u47 u48 u49 u50 u51 u52
        u53 u54 u55 u56 u57 u58 u59 u60 u61 u62 u63 u64 u65 u66 u67 u68 u69 u70 u71 u72 u73 u74 u75 u76 u77 u78 u79 u80
        u81 u82 u83 u84 u85 u86 u87 u88 u89 u90 u91 u92 u93 u94 u95 u96 u97 u98 u99 u100 u101 u102 u103 u104 u105 u106
        u107 u108 u109 u110 u111 u112 u113 u114 u115 u116 u117 u118 u119 u120 u121 u122 u123 u124 u125 u126 u127 u128
        u129 u130 u131 u132 u133 u134 u135 u136 u137 u138 u139 u140 u141 u142 u143 u144 u145 u146 u147 u148 u149 u150
        u151 u152 u153 u154 u155 u156 u157 u158 u159 u160 u161 u162 u163 u164 u165 u166 u167 u168 u169 u170 u171 u172
        u173 u174 u175 u176 u177 u178 u179 u180 u181 u182 u183 u184 u185 u186 u187 u188 u189 u190 u191 u192 u193 u194
        u195 u196 u197 u198 u199 u200 u201 u202 u203 u204 u205 u206 u207 u208 u209 u210 u211 u212 u213 u214 u215 u216
        u217 u218 u219 u220 u221 u222 u223 u224 u225 u226 u227 u228 u229 u230 u231 u232 u233 u234 u235 u236 u237 u238
        u239 u240 u241 u242 u243 u244 u245 u246 u247 u248 u249 u250 u251 u252 u253 u254 u255 u256 u257 u258 u259 u260
        u261 u262 u263 u264 u265 u266 u267 u268 u269 u270 u271 u272 u273 u274 u275 u276 u277 u278 u279 u280 u281 u282
        u283 u284 u285 u286 u287 u288 u289 u290 u291 u292 u293 u294 u295 u296 u297 u298 u299 u300 u301 u302 u303 u304
        u305 u306 u307 u308 u309 u310 u311 u312 u313 u314 u315 u316 u317 u318 u319 u320 u321 u322 u323 u324 u325 u326
        u327 u328 u329 u330 u331 u332 u333 u334 u335 u336 u337 u338 u339 u340 u341 u342 u343 u344 u345 u346 u347 u348
        u349 u350 u351 u352 u353 u354 u355 u356 u357,
        (∃ c' W' F' m' r' xs' x1 x2,
            m' = u8 ∧
              r' = u9 ∧ xs'.length ≤ k + 1 ∧ c' ≤ k + 1 ∧ Hid (GmS w w' d q c' W' F' r' m' xs' x1 x2) ∧ Hid (Ev xs')) ∧
          a' =
            {
              tmps :=
                #[Value.int IntKind.u8 Q, Value.slice (some { block := b, off := off }) acts.length ca, undef, undef,
                  u4, Value.int IntKind.i64 ↑q, Value.pointer (some { block := d, off := 0 }), Value.int IntKind.i64 0,
                  u8, u9, Value.int IntKind.i64 ↑k, Value.pointer (some { block := ga, off := 0 }),
                  Value.int IntKind.u8 5, u13, u14, u15, u16, u17, u18, u19, u20, u21, u22, u23, u24, u25, u26, u27,
                  u28, u29, u30, u31, Value.bool true, Value.bool false, Value.bool false, Value.bool false,
                  Value.int IntKind.u8 Q, Value.int IntKind.i64 Q, Value.int IntKind.i64 ↑q,
                  Value.tuple #[Value.pointer (some { block := d, off := 0 }), Value.int IntKind.i64 0],
                  Value.int IntKind.i64 ↑q,
                  Value.tuple #[Value.pointer (some { block := d, off := 0 }), Value.int IntKind.i64 0],
                  Value.pointer (some { block := d, off := 0 }), Value.int IntKind.i64 0, Value.int IntKind.i64 0,
                  Value.bool false, u46, u47, u48, u49, u50, u51, u52, u53, u54, u55, u56, u57, u58, u59, u60, u61, u62,
                  u63, u64, u65, u66, u67, u68, u69, u70, u71, u72, u73, u74, u75, u76, u77, u78, u79, u80, u81, u82,
                  u83, u84, u85, u86, u87, u88, u89, u90, u91, u92, u93, u94, u95, u96, u97, u98, u99, u100, u101, u102,
                  u103, u104, u105, u106, u107, u108, u109, u110, u111, u112, u113, u114, u115, u116, u117, u118, u119,
                  u120, u121, u122, u123, u124, u125, u126, u127, u128, u129, u130, u131, u132, u133, u134, u135, u136,
                  u137, u138, u139, u140, u141, u142, u143, u144, u145, u146, u147, u148, u149, u150, u151, u152, u153,
                  u154, u155, u156, u157, u158, u159, u160, u161, u162, u163, u164, u165, u166, u167, u168, u169, u170,
                  u171, u172, u173, u174, u175, u176, u177, u178, u179, u180, u181, u182, u183, u184, u185, u186, u187,
                  u188, u189, u190, u191, u192, u193, u194, u195, u196, u197, u198, u199, u200, u201, u202, u203, u204,
                  u205, u206, u207, u208, u209, u210, u211, u212, u213, u214, u215, u216, u217, u218, u219, u220, u221,
                  u222, u223, u224, u225, u226, u227, u228, u229, u230, u231, u232, u233, u234, u235, u236, u237, u238,
                  u239, u240, u241, u242, u243, u244, u245, u246, u247, u248, u249, u250, u251, u252, u253, u254, u255,
                  u256, u257, u258, u259, u260, u261, u262, u263, u264, u265, u266, u267, u268, u269, u270, u271, u272,
                  u273, u274, u275, u276, u277, u278, u279, u280, u281, u282, u283, u284, u285, u286, u287, u288, u289,
                  u290, u291, u292, u293, u294, u295, u296, u297, u298, u299, u300, u301, u302, u303, u304, u305, u306,
                  u307, u308, u309, u310, u311, u312, u313, u314, u315, u316, u317, u318, u319, u320, u321, u322, u323,
                  u324, u325, u326, u327, u328, u329, u330, u331, u332, u333, u334, u335, u336, u337, u338, u339, u340,
                  u341, u342, u343, u344, u345, u346, u347, u348, u349, u350, u351, u352, u353, u354, u355, u356, u357],
              defers := [] }) →
      J a' w')
    (hJ1 : ∀ (a' : Act) (w' : World),
    (∃ u4 u8 u9 u13 u14 u15 u16 u17 u18 u19 u20 u21 u22 u23 u24 u25 u26 u27 u28 u29 u30 u31 u46 u47 u48 u49 u50 u51 u52
        u53 u54 u55 u56 u57 u58 u59 u60 u61 u62 u63 u64 u65 u66 u67 u68 u69 u70 u71 u72 u73 u74 u75 u76 u77 u78 u79 u80
        u81 u82 u83 u84 u85 u86 u87 u88 u89 u90 u91 u92 u93 u94 u95 u96 u97 u98 u99 u100 u101 u102 u103 u104 u105 u106
        u107 u108 u109 u110 u111 u112 u113 u114 u115 u116 u117 u118 u119 u120 u121 u122 u123 u124 u125 u126 u127 u128
        u129 u130 u131 u132 u133 u134 u135 u136 u137 u138 u139 u140 u141 u142 u143 u144 u145 u146 u147 u148 u149 u150
        u151 u152 u153 u154 u155 u156 u157 u158 u159 u160 u161 u162 u163 u164 u165 u166 u167 u168 u169 u170 u171 u172
        u173 u174 u175 u176 u177 u178 u179 u180 u181 u182 u183 u184 u185 u186 u187 u188 u189 u190 u191 u192 u193 u194
        u195 u196 u197 u198 u199 u200 u201 u202 u203 u204 u205 u206 u207 u208 u209 u210 u211 u212 u213 u214 u215 u216
        u217 u218 u219 u220 u221 u222 u223 u224 u225 u226 u227 u228 u229 u230 u231 u232 u233 u234 u235 u236 u237 u238
        u239 u240 u241 u242 u243 u244 u245 u246 u247 u248 u249 u250 u251 u252 u253 u254 u255 u256 u257 u258 u259 u260
        u261 u262 u263 u264 u265 u266 u267 u268 u269 u270 u271 u272 u273 u274 u275 u276 u277 u278 u279 u280 u281 u282
        u283 u284 u285 u286 u287 u288 u289 u290 u291 u292 u293 u294 u295 u296 u297 u298 u299 u300 u301 u302 u303 u304
        u305 u306 u307 u308 u309 u310 u311 u312 u313 u314 u315 u316 u317 u318 u319 u320 u321 u322 u323 u324 u325 u326
        u327 u328 u329 u330 u331 u332 u333 u334 u335 u336 u337 u338 u339 u340 u341 u342 u343 u344 u345 u346 u347 u348
        u349 u350 u351 u352 u353 u354 u355 u356 u357,
        (∃ c' W' F' m' r' xs' x1 x2,
            m' = u8 ∧
              r' = u9 ∧ xs'.length ≤ k + 1 ∧ c' ≤ k + 1 ∧ Hid (GmS w w' d q c' W' F' r' m' xs' x1 x2) ∧ Hid (Ev xs')) ∧
          a' =
            {
              tmps :=
                #[Value.int IntKind.u8 Q, Value.slice (some { block := b, off := off }) acts.length ca, undef, undef,
                  u4, Value.int IntKind.i64 ↑q, Value.pointer (some { block := d, off := 0 }), Value.int IntKind.i64 0,
                  u8, u9, Value.int IntKind.i64 ↑k, Value.pointer (some { block := ga, off := 0 }),
                  Value.int IntKind.u8 5, u13, u14, u15, u16, u17, u18, u19, u20, u21, u22, u23, u24, u25, u26, u27,
                  u28, u29, u30, u31, Value.bool true, Value.bool false, Value.bool false, Value.bool false,
                  Value.int IntKind.u8 Q, Value.int IntKind.i64 Q, Value.int IntKind.i64 ↑q,
                  Value.tuple #[Value.pointer (some { block := d, off := 0 }), Value.int IntKind.i64 0],
                  Value.int IntKind.i64 ↑q,
                  Value.tuple #[Value.pointer (some { block := d, off := 0 }), Value.int IntKind.i64 0],
                  Value.pointer (some { block := d, off := 0 }), Value.int IntKind.i64 0, Value.int IntKind.i64 0,
                  Value.bool false, u46, u47, u48, u49, u50, u51, u52, u53, u54, u55, u56, u57, u58, u59, u60, u61, u62,
                  u63, u64, u65, u66, u67, u68, u69, u70, u71, u72, u73, u74, u75, u76, u77, u78, u79, u80, u81, u82,
                  u83, u84, u85, u86, u87, u88, u89, u90, u91, u92, u93, u94, u95, u96, u97, u98, u99, u100, u101, u102,
                  u103, u104, u105, u106, u107, u108, u109, u110, u111, u112, u113, u114, u115, u116, u117, u118, u119,
                  u120, u121, u122, u123, u124, u125, u126, u127, u128, u129, u130, u131, u132, u133, u134, u135, u136,
                  u137, u138, u139, u140, u141, u142, u143, u144, u145, u146, u147, u148, u149, u150, u151, u152, u153,
                  u154, u155, u156, u157, u158, u159, u160, u161, u162, u163, u164, u165, u166, u167, u168, u169, u170,
                  u171, u172, u173, u174, u175, u176, u177, u178, u179, u180, u181, u182, u183, u184, u185, u186, u187,
                  u188, u189, u190, u191, u192, u193, u194, u195, u196, u197, u198, u199, u200, u201, u202, u203, u204,
                  u205, u206, u207, u208, u209, u210, u211, u212, u213, u214, u215, u216, u217, u218, u219, u220, u221,
                  u222, u223, u224, u225, u226, u227, u228, u229, u230, u231, u232, u233, u234, u235, u236, u237, u238,
                  u239, u240, u241, u242, u243, u244, u245, u246, u247, u248, u249, u250, u251, u252, u253, u254, u255,
                  u256, u257, u258, u259, u260, u261, u262, u263, u264, u265, u266, u267, u268, u269, u270, u271, u272,
                  u273, u274, u275, u276, u277, u278, u279, u280, u281, u282, u283, u284, u285, u286, u287, u288, u289,
                  u290, u291, u292, u293, u294, u295, u296, u297, u298, u299, u300, u301, u302, u303, u304, u305, u306,
                  u307, u308, u309, u310, u311, u312, u313, u314, u315, u316, u317, u318, u319, u320, u321, u322, u323,
                  u324, u325, u326, u327, u328, u329, u330, u331, u332, u333, u334, u335, u336, u337, u338, u339, u340,
                  u341, u342, u343, u344, u345, u346, u347, u348, u349, u350, u351, u352, u353, u354, u355, u356, u357],
              defers := [] }) →
      J1 a' w')
    (aK : Int) (hK0 : 0 ≤ aK) (hK1 : aK ≤ 255) (f1 : wa.cell? ⟨ga, 1, none⟩ = some (.int .u8 aK)) (orr : Option Addr) (cr : Nat) (_hcr1 : xs.length ≤ cr) (_hcr2 : cr ≤ maxLen) (HGA : Hid (GmS w wa d q c W F (.slice orr xs.length cr) mv xs u1 u2)) :
    Code.wp Try.prog playsSwitch (Exit.then K' (Exit.inBlock 1 (Exit.then K1 (Exit.then K2 (Exit.inBlock 0 (Exit.then K3 (bodyPost Try.prog Try.f3 fun e w' => e = .returned (.bool true) ∧ Below w.heap.size w w')))))))
      {
      tmps :=
        #[Value.int IntKind.u8 Q, Value.slice (some { block := b, off := off }) acts.length ca, undef, undef, u4,
          Value.int IntKind.i64 ↑q, Value.pointer (some { block := d, off := 0 }), Value.int IntKind.i64 0, mv,
          Value.slice orr xs.length cr, Value.int IntKind.i64 ↑k, Value.pointer (some { block := ga, off := 0 }),
          Value.int IntKind.u8 5, u13, u14, u15, u16, u17, u18, u19, u20, u21, u22, u23, u24, u25, u26, u27, u28, u29,
          u30, u31, Value.bool true, Value.bool false, Value.bool false, Value.bool false, Value.int IntKind.u8 Q,
          Value.int IntKind.i64 Q, Value.int IntKind.i64 ↑q,
          Value.tuple #[Value.pointer (some { block := d, off := 0 }), Value.int IntKind.i64 0],
          Value.int IntKind.i64 ↑q,
          Value.tuple #[Value.pointer (some { block := d, off := 0 }), Value.int IntKind.i64 0],
          Value.pointer (some { block := d, off := 0 }), Value.int IntKind.i64 0, Value.int IntKind.i64 0,
          Value.bool false, Value.int IntKind.i64 ↑k, Value.slice (some { block := b, off := off }) acts.length ca,
          Value.int IntKind.i64 ↑acts.length, Value.bool true, Value.bool true, Value.int IntKind.i64 ↑k,
          Value.bool true, Value.bool true, u54, u55, Value.slice (some { block := b, off := off }) acts.length ca,
          Value.int IntKind.i64 ↑k, Value.pointer (some { block := b, off := off + k * 4 }),
          Value.agg
            #[Value.int IntKind.u8 a.k, Value.int IntKind.u8 aK, Value.slice po a.ps.length pc, Value.string a.s],
          Value.pointer (some { block := ga, off := 0 }), Value.int IntKind.u8 a.k, Value.int IntKind.u8 5, u63, u64,
          u65, u66, u67, u68, u69, u70, u71, u72, u73, u74, u75, u76, u77, u78, u79, u80, u81, u82, u83, u84, u85, u86,
          u87, u88, u89, u90, u91, u92, u93, u94, u95, u96, u97, u98, u99, u100, u101, u102, u103, u104, u105, u106,
          u107, u108, u109, u110, u111, u112, u113, u114, u115, u116, u117, u118, u119, u120, u121, u122, u123, u124,
          u125, u126, u127, u128, u129, u130, u131, u132, u133, u134, u135, u136, u137, u138, u139, u140, u141, u142,
          u143, u144, u145, u146, u147, u148, u149, u150, u151, u152, u153, u154, u155, u156, u157, u158, u159, u160,
          u161, u162, u163, u164, u165, u166, u167, u168, u169, u170, u171, u172, u173, u174, u175, u176, u177, u178,
          u179, u180, u181, u182, u183, u184, u185, u186, u187, u188, u189, u190, u191, u192, u193, u194, u195, u196,
          u197, u198, u199, u200, u201, u202, u203, u204, u205, u206, u207, u208, u209, u210, u211, u212, u213, u214,
          u215, u216, u217, u218, u219, u220, u221, u222, u223, u224, u225, u226, u227, u228, u229, u230, u231, u232,
          u233, u234, u235, u236, u237, u238, u239, u240, u241, u242, u243, u244, u245, u246, u247, u248, u249, u250,
          u251, u252, u253, u254, u255, u256, u257, u258, u259, u260, u261, u262, u263, u264, u265, u266, u267, u268,
          u269, u270, u271, u272, u273, u274, u275, u276, u277, u278, u279, u280, u281, u282, u283, u284, u285, u286,
          u287, u288, u289, u290, u291, u292, u293, u294, u295, u296, u297, u298, u299, u300, u301, u302, u303, u304,
          u305, u306, u307, u308, u309, u310, u311, u312, u313, u314, u315, u316, u317, u318, u319, u320, u321, u322,
          u323, u324, u325, u326, u327, u328, u329, u330, u331, u332, u333, u334, u335, u336, u337, u338, u339, u340,
          u341, u342, u343, u344, u345, u346, u347, u348, u349, u350, u351, u352, u353, u354, u355, u356, u357],
      defers := [] }
    wa := by
  conv => arg 2; whnf
  by_cases hn0 : xs.length = 0
  · have hz1 : ((xs.length : Int) == 0) = true := by rw [hn0]; rfl
    clear hn0
    go_wp2_with fail
    go_meet
    exact ⟨c, W, F, _, _, xs, u1, u2, rfl, rfl, by omega, by omega, HGA.out, HEV.out⟩
  have hz1 : ((xs.length : Int) == 0) = false := by rw [beq_eq_false_iff_ne]; omega
  by_cases hp0 : a.ps.length = 0
  · have hz2 : ((a.ps.length : Int) == 0) = true := by rw [hp0]; rfl
    clear hp0
    go_wp2_with fail
    go_meet
    exact ⟨c, W, F, _, _, xs, u1, u2, rfl, rfl, by omega, by omega, HGA.out, HEV.out⟩
  have hz2 : ((a.ps.length : Int) == 0) = false := by rw [beq_eq_false_iff_ne]; omega
  have hp0i : (0 : Int) < (a.ps.length : Int) := by omega
  have hp0n : 0 < a.ps.length := by omega
  have hn0i : (0 : Int) < (xs.length : Int) := by omega
  obtain ⟨j0, hj0, hj0l⟩ : ∃ j : Nat, aK.tmod (xs.length : Int) = (j : Int) ∧ j < xs.length := ⟨(aK % (xs.length : Int)).toNat, by rw [Int.tmod_eq_emod_of_nonneg hK0]; have := Int.emod_nonneg aK (show (xs.length : Int) ≠ 0 by omega); omega, by have := Int.emod_lt_of_pos aK hn0i; have := Int.emod_nonneg aK (show (xs.length : Int) ≠ 0 by omega); omega⟩
  obtain ⟨j7, hj7, hj7l⟩ : ∃ j : Nat, aK.tmod 7 = (j : Int) ∧ j < 7 := ⟨(aK % 7).toNat, by rw [Int.tmod_eq_emod_of_nonneg hK0]; omega, by omega⟩
  have hj7i : (j7 : Int) ≤ 10000000 := by omega
  have hj7m : j7 ≤ 10000000 := by omega
  clear hj7l hj7m
  obtain ⟨g, hg⟩ : ∃ g, orr = some ⟨g, 0, none⟩ := by
    rcases HGA.out.p.row.2 with ⟨e, e0⟩ | ⟨g, cap, cur, e, _⟩
    · omega
    · simp only [Value.slice.injEq] at e
      exact ⟨g, e.1⟩
  subst hg
  obtain ⟨x, hxx⟩ : ∃ x, xs[j0] = x := ⟨_, rfl⟩
  have hxm : x ∈ xs := by rw [← hxx]; exact List.getElem_mem hj0l
  have hcx : wa.cell? ⟨g, j0, none⟩ = some (.int .u64 (x : Int)) := by
    rw [World.ownsRow.cellAt HGA.out.p.row j0 (by omega)]
    simp only [Ws, List.getElem?_map, List.getElem?_eq_getElem hj0l, hxx]
    rfl
  obtain ⟨hfx, hxl⟩ := HGA.out.p.fit x hxm
  have hxe := HEV.out x hxm
  have hio : isObj W F x = true := by
    rcases hfx with h | h
    · omega
    · exact h
  have hx' : (x : Int) ≤ 18446744073709551615 := by omega
  obtain ⟨i, hxi⟩ : ∃ i, 2 * i = x := ⟨x / 2, by omega⟩
  have hdiv : (x : Int) / 2 = (i : Int) := by omega
  have hob : Ob W F i := by
    have := (isObj_iff.1 hio).2.2
    rw [show x / 2 = i by omega] at this
    exact HGA.out.p.fine.good.obs i this
  have hmx := HGA.out.p.fine.good.max
  have hfi := hob.fits
  have hsz := szX_pos (W.getD i 0)
  have hil : i < W.length := by omega
  have hii : (i : Int) < 10000000 := by omega
  obtain ⟨y0, hy0⟩ : ∃ y0, a.ps[0]? = some y0 := ⟨_, List.getElem?_eq_getElem (by omega)⟩
  obtain ⟨A, cA, hpo, hcA⟩ := HPA.out.at (k := 0) (u := .int .i64 y0) (by rw [List.getElem?_map, hy0]; rfl)
  simp only [Value.slice.injEq] at hpo
  obtain ⟨rfl, -, rfl⟩ := hpo
  have HFY := Lib.hid (HFIT.out y0 (List.mem_of_getElem? hy0))
  have HOB := Lib.hid hob
  have HXI := Lib.hid hxi
  have HMX := Lib.hid hmx
  have HIL := Lib.hid hil
  clear hmx hil hii hn0 hp0 hxi hxl hxe hfx hxm hxx hio hob hfi hsz hy0
  obtain ⟨kk, hkk⟩ : ∃ kk, W.getD i 0 % 256 = kk := ⟨_, rfl⟩
  obtain ⟨P, hP⟩ : ∃ P, prs W i = P := ⟨_, rfl⟩
  obtain ⟨str, hstr⟩ : ∃ str, strO W i = str := ⟨_, rfl⟩
  have hat := at_lit3 mv W F i wa (RdV.of_own HGA.out.m) HGA.out.p.fine.good HOB.out
  rw [hkk, hP, hstr] at hat
  have HAT := Lib.hid hat
  have HKK := Lib.hid hkk
  have HP := Lib.hid hP
  have hPl : P.length ≤ 10000000 := by
    have h1 := prs_le HOB.out
    have h2 := HMX.out
    rw [hP] at h1
    omega
  have hPi : (P.length : Int) ≤ 10000000 := by omega
  have hki5 : (kk : Int) ≤ 255 := by omega
  have hAl : A.block < wa.heap.size := by
    have := World.block_lt_of_cell? wa _ hcA
    unfold Addr.add at this
    split at this <;> exact this
  have hwi : (i : Int) < 10000000 := by have := HIL.out; have := HMX.out; omega
  clear hat hkk hP hstr
  go_upto_region 60 with (first | go_at_call 14; refine HAT.out.mono ?_; rintro e w1 ⟨po', pc', N, rfl, hoP, hb1⟩; have HB1a := Lib.hid hb1; have HOP := Lib.hid hoP; clear hb1 hoP; dsimp only)
  clear hPl
  obtain ⟨w2, hw2⟩ : ∃ w2, w1.alloc (.cells #[.int .u8 (kk : Int), .slice po' P.length pc', .string str] 35) = w2 := ⟨_, rfl⟩
  have hb2 : Below wa.heap.size wa w2 := by rw [← hw2]; exact HB1a.out.alloc HB1a.out.size _
  have hob2 : w2.heap[w1.heap.size]? = some (.cells #[.int .u8 (kk : Int), .slice po' P.length pc', .string str] 35 (0, 0)) := by rw [← hw2]; exact heap_alloc_new w1 _
  rw [hw2]
  have o0 : w2.cell? ⟨w1.heap.size, 0, none⟩ = some (.int .u8 (kk : Int)) := (cell_of_row w2 _ 0 _ _ (0, 0) hob2).trans rfl
  have o1 : w2.cell? ⟨w1.heap.size, 1, none⟩ = some (.slice po' P.length pc') := (cell_of_row w2 _ 1 _ _ (0, 0) hob2).trans rfl
  have g1 : w2.cell? ⟨ga, 1, none⟩ = some (.int .u8 aK) := (hb2.cell hgal).trans f1
  have g2 : w2.cell? ⟨ga, 2, none⟩ = some (.slice (some A) a.ps.length pc) := (hb2.cell hgal).trans f2
  have gA : w2.cell? (A.add 0) = some (.int .i64 y0) := (hb2.cell (World.block_lt_of_cell? wa _ hcA)).trans hcA
  have hgo1 : wa.heap.size ≤ w1.heap.size := HB1a.out.size
  have hgo2 : w1.heap.size < w2.heap.size := lt_of_block hob2
  have HB2 := Lib.hid hb2
  have HOB2 := Lib.hid hob2
  clear hw2 hb2 f1 f2 _f3 hcA hcx hob2 HAT HOP HB1a
  generalize w1.heap.size = go at *
  have HPT := Lib.hid (lpart_t y0 _ xs w2 (RdV.of_own (HGA.out.more HB2.out).p.row) (by omega) HFY.out.1 HFY.out.2)
  clear hz1 hz2 hn0i hj0 hj0l
  have gA2 := gA
  rw [addr_add0] at gA2
  clear gA
  go_upto_region 61 with (fail)
  clear hK0 hK1
  go_wp2_with fail
  refine HPT.out.mono ?_
  rintro e w3 ⟨y, rfl, hy, rfl⟩
  dsimp only
  go_upto_region 62 with (fail)
  have hyf : (y % 2 = 1 ∨ isObj W F y = true) ∧ y < 18446744073709551616 := by
    rcases hy with hy | hy
    · exact ⟨.inl hy.1, hy.2⟩
    · exact HGA.out.p.fit y hy
  have hyi : (y : Int) ≤ 18446744073709551615 := by have := hyf.2; omega
  have HYF := Lib.hid hyf
  have HG2 := Lib.hid (HGA.out.more HB2.out)
  clear hy hyf
  by_cases hjj : j7 < P.length
  · have hkk3 : kk ≠ 3 := by
      intro h3
      have h1 := HP.out
      unfold prs at h1
      rw [HKK.out, h3, if_neg (fun h => h rfl)] at h1
      rw [← h1] at hjj
      simp at hjj
    have hPr : P = rst W i := by
      have h1 := HP.out
      unfold prs at h1
      rw [HKK.out, if_pos hkk3] at h1
      exact h1.symm
    have hset := hset_t d w.heap.size q c u1 u2 W F i j7 y w2 HG2.out.p.h HG2.out.p.fine.good HOB.out (by rw [HP.out]; exact hjj)
    rw [HXI.out] at hset
    have hfine : Fine (W.set (i + 1 + j7) y) F := HG2.out.p.fine.set HOB.out (by rw [HKK.out]; exact hkk3) (by rw [← hPr]; exact hjj) HYF.out.1 HYF.out.2
    have HSET := Lib.hid hset
    have HFINE := Lib.hid hfine
    have hkb : ((kk : Int) != 3) = true := by rw [bne_iff_ne]; omega
    have hjb : (j7 : Int) < (P.length : Int) := by omega
    have hidx : i + 1 + j7 < W.length := by
      have h1 := rst_length HOB.out
      have h2 := HOB.out.fits
      rw [← hPr] at h1
      omega
    have HIDX := Lib.hid hidx
    clear hset hfine hkk3 hPr hidx
    go_upto_region 63 with (first | go_at_call 15; refine HSET.out.mono ?_; rintro e w4 ⟨rfl, hH4, hk4⟩; dsimp only)
    have hp4 := HG2.out.p.set HFINE.out hH4 hk4
    have hm4 : OwnU w4 w.heap.size mv W := own_kept HG2.out.m hk4 fun k hk hs => own_heap HG2.out.p.h HG2.out.m k hk (.inr (.inl hs))
    have hnu : ∀ k, u1.ownBlock = some k → k < wa.heap.size := fun k hk => HGA.out.p.h.own_lt k (.inr (.inl hk))
    have n0 : w4.cell? ⟨go, 0, none⟩ = some (.int .u8 (kk : Int)) := (hk4.cell (p := ⟨go, 0, none⟩) hgo2 (fun hs => by have := hnu _ hs; simp only at this; omega)).trans o0
    have n1 : w4.cell? ⟨go, 1, none⟩ = some (.slice po' P.length pc') := (hk4.cell (p := ⟨go, 1, none⟩) hgo2 (fun hs => by have := hnu _ hs; simp only at this; omega)).trans o1
    obtain ⟨gm, cm, hmv⟩ : ∃ gm cm, mv = .slice (some ⟨gm, 0, none⟩) W.length cm := by
      rcases hm4.2 with ⟨e, e0⟩ | ⟨g', cap, cur, e, _⟩
      · have := HIDX.out
        omega
      · exact ⟨g', cap, e⟩
    subst hmv
    have hcm : w4.cell? ⟨gm, i + 1 + j7, none⟩ = some (.int .u64 (W.getD (i + 1 + j7) 0 : Int)) := by
      rw [World.ownsRow.cellAt hm4 _ (by have := HIDX.out; omega)]
      simp only [Ws, List.getElem?_map, List.getElem?_eq_getElem HIDX.out, List.getD_eq_getElem?_getD]
      rfl
    have hfm : w4.frozen? ⟨gm, i + 1 + j7, none⟩ = false := hm4.frozenAt _
    have hix : ((i : Int) + 1 + (j7 : Int)).toNat = i + 1 + j7 := by omega
    have hixl : (i : Int) + 1 + (j7 : Int) < (W.length : Int) := by have := HIDX.out; omega
    have hfin : GmS w (w4.setCell ⟨gm, i + 1 + j7, none⟩ (.int .u64 (y : Int))) d q c (W.set (i + 1 + j7) y) F (.slice (some ⟨g, 0, none⟩) xs.length cr) (.slice (some ⟨gm, 0, none⟩) W.length cm) xs u1 u2 := by
      refine ⟨hp4.store hm4 _ _, ?_⟩
      have e : Ws (W.set (i + 1 + j7) y) = (Ws W).set (i + 1 + j7) (.int .u64 (y : Int)) := by unfold Ws; rw [List.map_set]; rfl
      unfold OwnU
      rw [List.length_set, e]
      exact (hm4.stored (i + 1 + j7) (.int .u64 (y : Int))).1
    have HFIN := Lib.hid hfin
    generalize W.getD (i + 1 + j7) 0 = old at *
    clear hp4 hm4 hk4 hH4 hfin o0 o1 hnu hgo1 hgo2
    go_wp2_with fail
    go_meet
    exact ⟨c, _, _, _, _, xs, u1, u2, rfl, rfl, by omega, by omega, HFIN.out, HEV.out⟩
  · have hset := hset_no d w.heap.size q c u1 u2 W F i j7 (y : Int) w2 HG2.out.p.h HG2.out.p.fine.good HOB.out (by rw [HP.out]; omega) (by omega)
    rw [HXI.out] at hset
    have HSET := Lib.hid hset
    have hjb : ¬ (j7 : Int) < (P.length : Int) := by omega
    have hW2 : ∀ nq, GmS w (w2.drewN nq) d q c W F (.slice (some ⟨g, 0, none⟩) xs.length cr) mv xs u1 u2 := fun nq => HG2.out.drewN nq
    have HW2 := Lib.hid hW2
    have c0 : ∀ nq, (w2.drewN nq).cell? ⟨go, 0, none⟩ = some (.int .u8 (kk : Int)) := fun nq => ((below_drewN w2.heap.size nq w2).cell hgo2).trans o0
    have c1 : ∀ nq, (w2.drewN nq).cell? ⟨go, 1, none⟩ = some (.slice po' P.length pc') := fun nq => ((below_drewN w2.heap.size nq w2).cell hgo2).trans o1
    have HC0 := Lib.hid c0
    have HC1 := Lib.hid c1
    clear hset hW2 hjj c0 c1
    go_upto_region 63 with (first | go_at_call 15; refine HSET.out.mono ?_; rintro e w4 ⟨rfl, nq, rfl⟩; dsimp only)
    have n0 := HC0.out nq
    have n1 := HC1.out nq
    have HFIN := Lib.hid (HW2.out nq)
    clear HW2 HC0 HC1
    generalize w2.drewN nq = w5 at *
    by_cases hk3 : kk = 3
    · have hkb : ((kk : Int) != 3) = false := by rw [hk3]; rfl
      clear hk3
      go_wp2_with fail
      go_meet
      exact ⟨c, _, _, _, _, xs, u1, u2, rfl, rfl, by omega, by omega, HFIN.out, HEV.out⟩
    · have hkb : ((kk : Int) != 3) = true := by rw [bne_iff_ne]; omega
      clear hk3
      go_wp2_with fail
      go_meet
      exact ⟨c, _, _, _, _, xs, u1, u2, rfl, rfl, by omega, by omega, HFIN.out, HEV.out⟩
end Go.Proofs.Ytkdhajiplonloaa
