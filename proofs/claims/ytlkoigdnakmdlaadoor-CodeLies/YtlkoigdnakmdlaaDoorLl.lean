/- CodeLies. -/
import Derived.Test.YtlkoigdnakmdlaaDoorLt
import Derived.Test.YtlkoigdnakmdlaaDoorFb
import Derived.Sort.CutIn
namespace Go.Proofs.YtlkoigdnakmdlaaDoor
open Go.RowKit Go.Shelf
attribute [local go_sem] Oper.semAt_some

/-- What the outer loop keeps. -/
def OutI (w V : World) (FL : Nat) (a : Act) (W : World) : Prop := ∃ (j : Nat) (D : List Deferred) (u0 u4 u5 u6 u7 u8 u9 u10 u11 u12 u13 u14 u15 u16 u17 u18 u19 u20 u21 u22 u23 u24 u25 u26 u27 u28 u29 u30 u31 u32 u33 u34 u35 u36 u37 u38 u39 u40 u41 u42 u43 u44 u45 u46 u47 u48 u49 u50 u51 u52 u53 u54 u55 u56 u57 u58 u59 u60 u61 u62 u63 u64 u65 u66 u67 u68 u69 u70 u71 u72 u73 u74 u75 u76 u77 u78 u79 u80 u81 u82 u83 u84 u85 u86 u87 u88 u89 u90 u91 u92 u93 u94 u95 u96 u97 u98 u99 u100 u101 u102 u103 u104 u105 u106 u107 u108 u109 u110 u111 u112 u113 u114 u115 u116 u117 u118 u119 u120 u121 u122 u123 u124 u125 u126 u127 u128 u129 u130 u131 u132 u133 u134 u135 u136 u137 u138 u139 u140 u141 u142 u143 u144 u145 : Value), j ≤ FL ∧ Mk w.heap.size D W ∧ Below V.heap.size V W ∧ a = { tmps := #[u0, .pointer (some ⟨w.heap.size, 0, none⟩), .pointer (some ⟨w.heap.size + 1, 0, none⟩), .int .i64 j, u4, u5, u6, u7, u8, u9, u10, u11, u12, u13, u14, u15, u16, u17, u18, u19, u20, u21, u22, u23, u24, u25, u26, u27, u28, u29, u30, u31, u32, u33, u34, u35, u36, u37, u38, u39, u40, u41, u42, u43, u44, u45, u46, u47, u48, u49, u50, u51, u52, u53, u54, u55, u56, u57, u58, u59, u60, u61, u62, u63, u64, u65, u66, u67, u68, u69, u70, u71, u72, u73, u74, u75, u76, u77, u78, u79, u80, u81, u82, u83, u84, u85, u86, u87, u88, u89, u90, u91, u92, u93, u94, u95, u96, u97, u98, u99, u100, u101, u102, u103, u104, u105, u106, u107, u108, u109, u110, u111, u112, u113, u114, u115, u116, u117, u118, u119, u120, u121, u122, u123, u124, u125, u126, u127, u128, u129, u130, u131, u132, u133, u134, u135, u136, u137, u138, u139, u140, u141, u142, u143, u144, u145], defers := D }
/-- What the inner loop keeps. -/
def InI (w V : World) (NF j CL : Nat) (a : Act) (W : World) : Prop := ∃ (k : Nat) (D : List Deferred) (u0 u6 u7 u8 u9 u10 u11 u12 u13 u14 u15 u16 u17 u18 u19 u20 u21 u22 u23 u24 u25 u26 u27 u28 u29 u30 u31 u32 u33 u34 u35 u36 u37 u38 u39 u40 u41 u42 u43 u44 u45 u46 u47 u48 u49 u50 u51 u52 u53 u54 u55 u56 u57 u58 u59 u60 u61 u62 u63 u64 u65 u66 u67 u68 u69 u70 u71 u72 u73 u74 u75 u76 u77 u78 u79 u80 u81 u82 u83 u84 u85 u86 u87 u88 u89 u90 u91 u92 u93 u94 u95 u96 u97 u98 u99 u100 u101 u102 u103 u104 u105 u106 u107 u108 u109 u110 u111 u112 u113 u114 u115 u116 u117 u118 u119 u120 u121 u122 u123 u124 u125 u126 u127 u128 u129 u130 u131 u132 u133 u134 u135 u136 u137 u138 u139 u140 u141 u142 u143 u144 u145 : Value), k ≤ CL ∧ Mk w.heap.size D W ∧ Below V.heap.size V W ∧ a = { tmps := #[u0, .pointer (some ⟨w.heap.size, 0, none⟩), .pointer (some ⟨w.heap.size + 1, 0, none⟩), .int .i64 j, .pointer (some ⟨NF, 0, none⟩), .int .i64 k, u6, u7, u8, u9, u10, u11, u12, u13, u14, u15, u16, u17, u18, u19, u20, u21, u22, u23, u24, u25, u26, u27, u28, u29, u30, u31, u32, u33, u34, u35, u36, u37, u38, u39, u40, u41, u42, u43, u44, u45, u46, u47, u48, u49, u50, u51, u52, u53, u54, u55, u56, u57, u58, u59, u60, u61, u62, u63, u64, u65, u66, u67, u68, u69, u70, u71, u72, u73, u74, u75, u76, u77, u78, u79, u80, u81, u82, u83, u84, u85, u86, u87, u88, u89, u90, u91, u92, u93, u94, u95, u96, u97, u98, u99, u100, u101, u102, u103, u104, u105, u106, u107, u108, u109, u110, u111, u112, u113, u114, u115, u116, u117, u118, u119, u120, u121, u122, u123, u124, u125, u126, u127, u128, u129, u130, u131, u132, u133, u134, u135, u136, u137, u138, u139, u140, u141, u142, u143, u144, u145], defers := D }
theorem OutI.elim {w V : World} {FL : Nat} {P : Act → World → Prop} (H : ∀ (j : Nat) (D : List Deferred) (u0 u4 u5 u6 u7 u8 u9 u10 u11 u12 u13 u14 u15 u16 u17 u18 u19 u20 u21 u22 u23 u24 u25 u26 u27 u28 u29 u30 u31 u32 u33 u34 u35 u36 u37 u38 u39 u40 u41 u42 u43 u44 u45 u46 u47 u48 u49 u50 u51 u52 u53 u54 u55 u56 u57 u58 u59 u60 u61 u62 u63 u64 u65 u66 u67 u68 u69 u70 u71 u72 u73 u74 u75 u76 u77 u78 u79 u80 u81 u82 u83 u84 u85 u86 u87 u88 u89 u90 u91 u92 u93 u94 u95 u96 u97 u98 u99 u100 u101 u102 u103 u104 u105 u106 u107 u108 u109 u110 u111 u112 u113 u114 u115 u116 u117 u118 u119 u120 u121 u122 u123 u124 u125 u126 u127 u128 u129 u130 u131 u132 u133 u134 u135 u136 u137 u138 u139 u140 u141 u142 u143 u144 u145 : Value) (W : World), j ≤ FL → Mk w.heap.size D W → Below V.heap.size V W → P { tmps := #[u0, .pointer (some ⟨w.heap.size, 0, none⟩), .pointer (some ⟨w.heap.size + 1, 0, none⟩), .int .i64 j, u4, u5, u6, u7, u8, u9, u10, u11, u12, u13, u14, u15, u16, u17, u18, u19, u20, u21, u22, u23, u24, u25, u26, u27, u28, u29, u30, u31, u32, u33, u34, u35, u36, u37, u38, u39, u40, u41, u42, u43, u44, u45, u46, u47, u48, u49, u50, u51, u52, u53, u54, u55, u56, u57, u58, u59, u60, u61, u62, u63, u64, u65, u66, u67, u68, u69, u70, u71, u72, u73, u74, u75, u76, u77, u78, u79, u80, u81, u82, u83, u84, u85, u86, u87, u88, u89, u90, u91, u92, u93, u94, u95, u96, u97, u98, u99, u100, u101, u102, u103, u104, u105, u106, u107, u108, u109, u110, u111, u112, u113, u114, u115, u116, u117, u118, u119, u120, u121, u122, u123, u124, u125, u126, u127, u128, u129, u130, u131, u132, u133, u134, u135, u136, u137, u138, u139, u140, u141, u142, u143, u144, u145], defers := D } W) : ∀ a W, OutI w V FL a W → P a W := by
  intro a W h
  obtain ⟨j, D, h⟩ := h
  obtain ⟨u0, h⟩ := h
  obtain ⟨u4, h⟩ := h
  obtain ⟨u5, h⟩ := h
  obtain ⟨u6, h⟩ := h
  obtain ⟨u7, h⟩ := h
  obtain ⟨u8, h⟩ := h
  obtain ⟨u9, h⟩ := h
  obtain ⟨u10, h⟩ := h
  obtain ⟨u11, h⟩ := h
  obtain ⟨u12, h⟩ := h
  obtain ⟨u13, h⟩ := h
  obtain ⟨u14, h⟩ := h
  obtain ⟨u15, h⟩ := h
  obtain ⟨u16, h⟩ := h
  obtain ⟨u17, h⟩ := h
  obtain ⟨u18, h⟩ := h
  obtain ⟨u19, h⟩ := h
  obtain ⟨u20, h⟩ := h
  obtain ⟨u21, h⟩ := h
  obtain ⟨u22, h⟩ := h
  obtain ⟨u23, h⟩ := h
  obtain ⟨u24, h⟩ := h
  obtain ⟨u25, h⟩ := h
  obtain ⟨u26, h⟩ := h
  obtain ⟨u27, h⟩ := h
  obtain ⟨u28, h⟩ := h
  obtain ⟨u29, h⟩ := h
  obtain ⟨u30, h⟩ := h
  obtain ⟨u31, h⟩ := h
  obtain ⟨u32, h⟩ := h
  obtain ⟨u33, h⟩ := h
  obtain ⟨u34, h⟩ := h
  obtain ⟨u35, h⟩ := h
  obtain ⟨u36, h⟩ := h
  obtain ⟨u37, h⟩ := h
  obtain ⟨u38, h⟩ := h
  obtain ⟨u39, h⟩ := h
  obtain ⟨u40, h⟩ := h
  obtain ⟨u41, h⟩ := h
  obtain ⟨u42, h⟩ := h
  obtain ⟨u43, h⟩ := h
  obtain ⟨u44, h⟩ := h
  obtain ⟨u45, h⟩ := h
  obtain ⟨u46, h⟩ := h
  obtain ⟨u47, h⟩ := h
  obtain ⟨u48, h⟩ := h
  obtain ⟨u49, h⟩ := h
  obtain ⟨u50, h⟩ := h
  obtain ⟨u51, h⟩ := h
  obtain ⟨u52, h⟩ := h
  obtain ⟨u53, h⟩ := h
  obtain ⟨u54, h⟩ := h
  obtain ⟨u55, h⟩ := h
  obtain ⟨u56, h⟩ := h
  obtain ⟨u57, h⟩ := h
  obtain ⟨u58, h⟩ := h
  obtain ⟨u59, h⟩ := h
  obtain ⟨u60, h⟩ := h
  obtain ⟨u61, h⟩ := h
  obtain ⟨u62, h⟩ := h
  obtain ⟨u63, h⟩ := h
  obtain ⟨u64, h⟩ := h
  obtain ⟨u65, h⟩ := h
  obtain ⟨u66, h⟩ := h
  obtain ⟨u67, h⟩ := h
  obtain ⟨u68, h⟩ := h
  obtain ⟨u69, h⟩ := h
  obtain ⟨u70, h⟩ := h
  obtain ⟨u71, h⟩ := h
  obtain ⟨u72, h⟩ := h
  obtain ⟨u73, h⟩ := h
  obtain ⟨u74, h⟩ := h
  obtain ⟨u75, h⟩ := h
  obtain ⟨u76, h⟩ := h
  obtain ⟨u77, h⟩ := h
  obtain ⟨u78, h⟩ := h
  obtain ⟨u79, h⟩ := h
  obtain ⟨u80, h⟩ := h
  obtain ⟨u81, h⟩ := h
  obtain ⟨u82, h⟩ := h
  obtain ⟨u83, h⟩ := h
  obtain ⟨u84, h⟩ := h
  obtain ⟨u85, h⟩ := h
  obtain ⟨u86, h⟩ := h
  obtain ⟨u87, h⟩ := h
  obtain ⟨u88, h⟩ := h
  obtain ⟨u89, h⟩ := h
  obtain ⟨u90, h⟩ := h
  obtain ⟨u91, h⟩ := h
  obtain ⟨u92, h⟩ := h
  obtain ⟨u93, h⟩ := h
  obtain ⟨u94, h⟩ := h
  obtain ⟨u95, h⟩ := h
  obtain ⟨u96, h⟩ := h
  obtain ⟨u97, h⟩ := h
  obtain ⟨u98, h⟩ := h
  obtain ⟨u99, h⟩ := h
  obtain ⟨u100, h⟩ := h
  obtain ⟨u101, h⟩ := h
  obtain ⟨u102, h⟩ := h
  obtain ⟨u103, h⟩ := h
  obtain ⟨u104, h⟩ := h
  obtain ⟨u105, h⟩ := h
  obtain ⟨u106, h⟩ := h
  obtain ⟨u107, h⟩ := h
  obtain ⟨u108, h⟩ := h
  obtain ⟨u109, h⟩ := h
  obtain ⟨u110, h⟩ := h
  obtain ⟨u111, h⟩ := h
  obtain ⟨u112, h⟩ := h
  obtain ⟨u113, h⟩ := h
  obtain ⟨u114, h⟩ := h
  obtain ⟨u115, h⟩ := h
  obtain ⟨u116, h⟩ := h
  obtain ⟨u117, h⟩ := h
  obtain ⟨u118, h⟩ := h
  obtain ⟨u119, h⟩ := h
  obtain ⟨u120, h⟩ := h
  obtain ⟨u121, h⟩ := h
  obtain ⟨u122, h⟩ := h
  obtain ⟨u123, h⟩ := h
  obtain ⟨u124, h⟩ := h
  obtain ⟨u125, h⟩ := h
  obtain ⟨u126, h⟩ := h
  obtain ⟨u127, h⟩ := h
  obtain ⟨u128, h⟩ := h
  obtain ⟨u129, h⟩ := h
  obtain ⟨u130, h⟩ := h
  obtain ⟨u131, h⟩ := h
  obtain ⟨u132, h⟩ := h
  obtain ⟨u133, h⟩ := h
  obtain ⟨u134, h⟩ := h
  obtain ⟨u135, h⟩ := h
  obtain ⟨u136, h⟩ := h
  obtain ⟨u137, h⟩ := h
  obtain ⟨u138, h⟩ := h
  obtain ⟨u139, h⟩ := h
  obtain ⟨u140, h⟩ := h
  obtain ⟨u141, h⟩ := h
  obtain ⟨u142, h⟩ := h
  obtain ⟨u143, h⟩ := h
  obtain ⟨u144, h⟩ := h
  obtain ⟨u145, h⟩ := h
  obtain ⟨h1, h2, h3, e⟩ := h
  rw [e]
  exact H j D u0 u4 u5 u6 u7 u8 u9 u10 u11 u12 u13 u14 u15 u16 u17 u18 u19 u20 u21 u22 u23 u24 u25 u26 u27 u28 u29 u30 u31 u32 u33 u34 u35 u36 u37 u38 u39 u40 u41 u42 u43 u44 u45 u46 u47 u48 u49 u50 u51 u52 u53 u54 u55 u56 u57 u58 u59 u60 u61 u62 u63 u64 u65 u66 u67 u68 u69 u70 u71 u72 u73 u74 u75 u76 u77 u78 u79 u80 u81 u82 u83 u84 u85 u86 u87 u88 u89 u90 u91 u92 u93 u94 u95 u96 u97 u98 u99 u100 u101 u102 u103 u104 u105 u106 u107 u108 u109 u110 u111 u112 u113 u114 u115 u116 u117 u118 u119 u120 u121 u122 u123 u124 u125 u126 u127 u128 u129 u130 u131 u132 u133 u134 u135 u136 u137 u138 u139 u140 u141 u142 u143 u144 u145 W h1 h2 h3
theorem InI.elim {w V : World} {NF j CL : Nat} {P : Act → World → Prop} (H : ∀ (k : Nat) (D : List Deferred) (u0 u6 u7 u8 u9 u10 u11 u12 u13 u14 u15 u16 u17 u18 u19 u20 u21 u22 u23 u24 u25 u26 u27 u28 u29 u30 u31 u32 u33 u34 u35 u36 u37 u38 u39 u40 u41 u42 u43 u44 u45 u46 u47 u48 u49 u50 u51 u52 u53 u54 u55 u56 u57 u58 u59 u60 u61 u62 u63 u64 u65 u66 u67 u68 u69 u70 u71 u72 u73 u74 u75 u76 u77 u78 u79 u80 u81 u82 u83 u84 u85 u86 u87 u88 u89 u90 u91 u92 u93 u94 u95 u96 u97 u98 u99 u100 u101 u102 u103 u104 u105 u106 u107 u108 u109 u110 u111 u112 u113 u114 u115 u116 u117 u118 u119 u120 u121 u122 u123 u124 u125 u126 u127 u128 u129 u130 u131 u132 u133 u134 u135 u136 u137 u138 u139 u140 u141 u142 u143 u144 u145 : Value) (W : World), k ≤ CL → Mk w.heap.size D W → Below V.heap.size V W → P { tmps := #[u0, .pointer (some ⟨w.heap.size, 0, none⟩), .pointer (some ⟨w.heap.size + 1, 0, none⟩), .int .i64 j, .pointer (some ⟨NF, 0, none⟩), .int .i64 k, u6, u7, u8, u9, u10, u11, u12, u13, u14, u15, u16, u17, u18, u19, u20, u21, u22, u23, u24, u25, u26, u27, u28, u29, u30, u31, u32, u33, u34, u35, u36, u37, u38, u39, u40, u41, u42, u43, u44, u45, u46, u47, u48, u49, u50, u51, u52, u53, u54, u55, u56, u57, u58, u59, u60, u61, u62, u63, u64, u65, u66, u67, u68, u69, u70, u71, u72, u73, u74, u75, u76, u77, u78, u79, u80, u81, u82, u83, u84, u85, u86, u87, u88, u89, u90, u91, u92, u93, u94, u95, u96, u97, u98, u99, u100, u101, u102, u103, u104, u105, u106, u107, u108, u109, u110, u111, u112, u113, u114, u115, u116, u117, u118, u119, u120, u121, u122, u123, u124, u125, u126, u127, u128, u129, u130, u131, u132, u133, u134, u135, u136, u137, u138, u139, u140, u141, u142, u143, u144, u145], defers := D } W) : ∀ a W, InI w V NF j CL a W → P a W := by
  intro a W h
  obtain ⟨k, D, h⟩ := h
  obtain ⟨u0, h⟩ := h
  obtain ⟨u6, h⟩ := h
  obtain ⟨u7, h⟩ := h
  obtain ⟨u8, h⟩ := h
  obtain ⟨u9, h⟩ := h
  obtain ⟨u10, h⟩ := h
  obtain ⟨u11, h⟩ := h
  obtain ⟨u12, h⟩ := h
  obtain ⟨u13, h⟩ := h
  obtain ⟨u14, h⟩ := h
  obtain ⟨u15, h⟩ := h
  obtain ⟨u16, h⟩ := h
  obtain ⟨u17, h⟩ := h
  obtain ⟨u18, h⟩ := h
  obtain ⟨u19, h⟩ := h
  obtain ⟨u20, h⟩ := h
  obtain ⟨u21, h⟩ := h
  obtain ⟨u22, h⟩ := h
  obtain ⟨u23, h⟩ := h
  obtain ⟨u24, h⟩ := h
  obtain ⟨u25, h⟩ := h
  obtain ⟨u26, h⟩ := h
  obtain ⟨u27, h⟩ := h
  obtain ⟨u28, h⟩ := h
  obtain ⟨u29, h⟩ := h
  obtain ⟨u30, h⟩ := h
  obtain ⟨u31, h⟩ := h
  obtain ⟨u32, h⟩ := h
  obtain ⟨u33, h⟩ := h
  obtain ⟨u34, h⟩ := h
  obtain ⟨u35, h⟩ := h
  obtain ⟨u36, h⟩ := h
  obtain ⟨u37, h⟩ := h
  obtain ⟨u38, h⟩ := h
  obtain ⟨u39, h⟩ := h
  obtain ⟨u40, h⟩ := h
  obtain ⟨u41, h⟩ := h
  obtain ⟨u42, h⟩ := h
  obtain ⟨u43, h⟩ := h
  obtain ⟨u44, h⟩ := h
  obtain ⟨u45, h⟩ := h
  obtain ⟨u46, h⟩ := h
  obtain ⟨u47, h⟩ := h
  obtain ⟨u48, h⟩ := h
  obtain ⟨u49, h⟩ := h
  obtain ⟨u50, h⟩ := h
  obtain ⟨u51, h⟩ := h
  obtain ⟨u52, h⟩ := h
  obtain ⟨u53, h⟩ := h
  obtain ⟨u54, h⟩ := h
  obtain ⟨u55, h⟩ := h
  obtain ⟨u56, h⟩ := h
  obtain ⟨u57, h⟩ := h
  obtain ⟨u58, h⟩ := h
  obtain ⟨u59, h⟩ := h
  obtain ⟨u60, h⟩ := h
  obtain ⟨u61, h⟩ := h
  obtain ⟨u62, h⟩ := h
  obtain ⟨u63, h⟩ := h
  obtain ⟨u64, h⟩ := h
  obtain ⟨u65, h⟩ := h
  obtain ⟨u66, h⟩ := h
  obtain ⟨u67, h⟩ := h
  obtain ⟨u68, h⟩ := h
  obtain ⟨u69, h⟩ := h
  obtain ⟨u70, h⟩ := h
  obtain ⟨u71, h⟩ := h
  obtain ⟨u72, h⟩ := h
  obtain ⟨u73, h⟩ := h
  obtain ⟨u74, h⟩ := h
  obtain ⟨u75, h⟩ := h
  obtain ⟨u76, h⟩ := h
  obtain ⟨u77, h⟩ := h
  obtain ⟨u78, h⟩ := h
  obtain ⟨u79, h⟩ := h
  obtain ⟨u80, h⟩ := h
  obtain ⟨u81, h⟩ := h
  obtain ⟨u82, h⟩ := h
  obtain ⟨u83, h⟩ := h
  obtain ⟨u84, h⟩ := h
  obtain ⟨u85, h⟩ := h
  obtain ⟨u86, h⟩ := h
  obtain ⟨u87, h⟩ := h
  obtain ⟨u88, h⟩ := h
  obtain ⟨u89, h⟩ := h
  obtain ⟨u90, h⟩ := h
  obtain ⟨u91, h⟩ := h
  obtain ⟨u92, h⟩ := h
  obtain ⟨u93, h⟩ := h
  obtain ⟨u94, h⟩ := h
  obtain ⟨u95, h⟩ := h
  obtain ⟨u96, h⟩ := h
  obtain ⟨u97, h⟩ := h
  obtain ⟨u98, h⟩ := h
  obtain ⟨u99, h⟩ := h
  obtain ⟨u100, h⟩ := h
  obtain ⟨u101, h⟩ := h
  obtain ⟨u102, h⟩ := h
  obtain ⟨u103, h⟩ := h
  obtain ⟨u104, h⟩ := h
  obtain ⟨u105, h⟩ := h
  obtain ⟨u106, h⟩ := h
  obtain ⟨u107, h⟩ := h
  obtain ⟨u108, h⟩ := h
  obtain ⟨u109, h⟩ := h
  obtain ⟨u110, h⟩ := h
  obtain ⟨u111, h⟩ := h
  obtain ⟨u112, h⟩ := h
  obtain ⟨u113, h⟩ := h
  obtain ⟨u114, h⟩ := h
  obtain ⟨u115, h⟩ := h
  obtain ⟨u116, h⟩ := h
  obtain ⟨u117, h⟩ := h
  obtain ⟨u118, h⟩ := h
  obtain ⟨u119, h⟩ := h
  obtain ⟨u120, h⟩ := h
  obtain ⟨u121, h⟩ := h
  obtain ⟨u122, h⟩ := h
  obtain ⟨u123, h⟩ := h
  obtain ⟨u124, h⟩ := h
  obtain ⟨u125, h⟩ := h
  obtain ⟨u126, h⟩ := h
  obtain ⟨u127, h⟩ := h
  obtain ⟨u128, h⟩ := h
  obtain ⟨u129, h⟩ := h
  obtain ⟨u130, h⟩ := h
  obtain ⟨u131, h⟩ := h
  obtain ⟨u132, h⟩ := h
  obtain ⟨u133, h⟩ := h
  obtain ⟨u134, h⟩ := h
  obtain ⟨u135, h⟩ := h
  obtain ⟨u136, h⟩ := h
  obtain ⟨u137, h⟩ := h
  obtain ⟨u138, h⟩ := h
  obtain ⟨u139, h⟩ := h
  obtain ⟨u140, h⟩ := h
  obtain ⟨u141, h⟩ := h
  obtain ⟨u142, h⟩ := h
  obtain ⟨u143, h⟩ := h
  obtain ⟨u144, h⟩ := h
  obtain ⟨u145, h⟩ := h
  obtain ⟨h1, h2, h3, e⟩ := h
  rw [e]
  exact H k D u0 u6 u7 u8 u9 u10 u11 u12 u13 u14 u15 u16 u17 u18 u19 u20 u21 u22 u23 u24 u25 u26 u27 u28 u29 u30 u31 u32 u33 u34 u35 u36 u37 u38 u39 u40 u41 u42 u43 u44 u45 u46 u47 u48 u49 u50 u51 u52 u53 u54 u55 u56 u57 u58 u59 u60 u61 u62 u63 u64 u65 u66 u67 u68 u69 u70 u71 u72 u73 u74 u75 u76 u77 u78 u79 u80 u81 u82 u83 u84 u85 u86 u87 u88 u89 u90 u91 u92 u93 u94 u95 u96 u97 u98 u99 u100 u101 u102 u103 u104 u105 u106 u107 u108 u109 u110 u111 u112 u113 u114 u115 u116 u117 u118 u119 u120 u121 u122 u123 u124 u125 u126 u127 u128 u129 u130 u131 u132 u133 u134 u135 u136 u137 u138 u139 u140 u141 u142 u143 u144 u145 W h1 h2 h3
set_option maxRecDepth 100000 in
set_option maxHeartbeats 8000000 in
theorem codeLies_in (m : Mo) (w : World) (ht : Tab w) (hm : m.In w) : CallsIn Fence.wide 6 Tryd.prog 8 #[m.val] w fun e w' => e = .returned (.bool true) ∧ Below w.heap.size w w' := by
  have hb := Below.one (Below.one (Below.refl _ w) (oM m)) (.cells #[.bool false] 4)
  have b0 := cell_kept_below (new_cell w #[.slice m.ta m.ths.length m.tc, .slice m.fa m.funcs.length m.fc] 33 0 (.slice m.ta m.ths.length m.tc) rfl) (Below.one (Below.refl _ _) (.cells #[.bool false] 4))
  have b1 := cell_kept_below (new_cell w #[.slice m.ta m.ths.length m.tc, .slice m.fa m.funcs.length m.fc] 33 1 (.slice m.fa m.funcs.length m.fc) rfl) (Below.one (Below.refl _ _) (.cells #[.bool false] 4))
  have br : Boxed ((w.alloc (oM m)).alloc (.cells #[.bool false] 4)) (w.heap.size + 1) 4 (.bool false) := by
    have := Boxed.new (w.alloc (oM m)) 4 (.bool false)
    rwa [World.size_alloc] at this
  have HX : Hid (∀ w', Below w.heap.size w w' → Calls Tryd.prog 9 #[] w' fun e w'' => e = .returned (.bool true) ∧ Below w'.heap.size w' w'') := fun w' hb => fixed_any w' (ht.stay hb)
  have HM : Hid (∀ w', Below w.heap.size w w' → Calls Tryd.prog 20 #[m.val] w' fun e w'' => e = .returned (fltV (mayZ m)) ∧ Below w'.heap.size w' w'') := fun w' hb => may_any m w' (ht.stay hb) (hm.stay hb)
  have HFD : Hid (∀ (s : ByteArray) w', Below w.heap.size w w' → Calls Tryd.prog 23 #[m.val, .string s] w' fun e w'' => e = .returned (.int .i64 (fndN m.funcs s 0)) ∧ Below w'.heap.size w' w'') := fun s w' hb => find_any m s w' (hm.2.2.1.stay hb)
  have HWR : Hid (∀ (x : Is) w', Below w.heap.size w w' → Calls Tryd.prog 16 #[x.val] w' fun e w'' => e = .returned (.int .i64 (wrN x)) ∧ Below w'.heap.size w' w'') := fun x w' hb => writes_any x w' (ht.stay hb)
  have HRD : Hid (∀ (x : Is) (p : Int) w', Below w.heap.size w w' → Calls Tryd.prog 26 #[x.val, .int .i64 p] w' fun e w'' => ∃ gf B C, e = .returned (.func (.func gf) #[] #[.pointer (some ⟨B, 0, none⟩), .pointer (some ⟨C, 0, none⟩)]) ∧ Below w'.heap.size w' w'' ∧ Tells w'' gf B C (rdL x p) w'.heap.size) := fun x p w' hb => reads_any x p w' (ht.stay hb)
  have HKN := Hid.mk' known_any
  have HWI := Hid.mk' within_any
  have HFS : Hid (∀ w', Below w.heap.size w w' → Fns w' m.fa m.funcs) := fun w' hb => hm.2.2.1.stay hb
  have HIN : Hid (∀ f ∈ m.funcs, ∀ w', Below w.heap.size w w' → Iss w' f.ca f.code) := fun f hf w' hb => (hm.2.2.2 f hf).2.2.2.2.2.1.stay hb
  have HG := Hid.mk' (good_of (m := m))
  clear ht hm
  generalize mayZ m = z at *
  obtain ⟨z0, z1, z2⟩ := z
  unfold fltV at HM
  unfold Mo.val at *
  unfold oM at *
  refine callsIn_of_wp_marks Tryd.func8 rfl trivial ?_ rfl
  simp only [Tryd.ntmps8, List.size_toArray, List.length_cons, List.length_nil, Nat.reduceAdd, Nat.reduceSub, Array.replicate_succ, Array.replicate_zero, List.push_toArray, List.append_toArray, List.nil_append, List.cons_append]
  gi_wp2_with fail
  refine ⟨trivial, ?_⟩
  generalize (w.alloc (.cells #[.slice m.ta m.ths.length m.tc, .slice m.fa m.funcs.length m.fc] 33)).alloc (.cells #[.bool false] 4) = V0 at *
  refine (callsIn_wide.2 (HX.out _ hb)).mono ?_
  rintro e V1 ⟨rfl, hb1⟩
  replace b0 := cell_kept_below b0 hb1
  replace b1 := cell_kept_below b1 hb1
  replace br := boxed_stay br hb1
  replace hb := Below.on hb hb1
  clear hb1 V0
  gi_wp2_with fail
  refine ⟨trivial, ?_⟩
  refine (callsIn_wide.2 (HM.out _ hb)).mono ?_
  rintro e V2 ⟨rfl, hb1⟩
  replace b0 := cell_kept_below b0 hb1
  replace b1 := cell_kept_below b1 hb1
  replace br := boxed_stay br hb1
  replace hb := Below.on hb hb1
  have fr := br.frozen
  clear hb1 V1
  have hg := eqGuard_f
  by_cases hz : (z0, z1, z2) = ((0, 0, 0) : Int × Int × Int)
  · have hq2 : ∀ w, (Op.equalIn 10000 37 (.agg #[.int .i64 z0, .int .i64 z1, .int .i64 z2]) (.agg #[.int .i64 0, .int .i64 0, .int .i64 0])).run Tryd.prog w = .ok true w := fun w => by
      rw [equalIn_fl]; simp only [Prod.mk.injEq] at hz; simp [hz.1, hz.2.1, hz.2.2]
    replace HG := Hid.mk' (HG.out hz)
    clear hz HM HX
    gi_wp2_with fail
    clear hg hq2 fr
    have HBR := Hid.mk' br
    have HB0 := Hid.mk' (And.intro b0 b1)
    have HBV := Hid.mk' hb
    clear b0 b1 br hb
    refine wpIn_loop (OutI w V2 m.funcs.length) (fun a _ => m.funcs.length - (intOf (a.tmps.getD 3 undef)).toNat) ⟨0, [], _, _, _, _, _, _, _, _, _, _, _, _, _, _, _, _, _, _, _, _, _, _, _, _, _, _, _, _, _, _, _, _, _, _, _, _, _, _, _, _, _, _, _, _, _, _, _, _, _, _, _, _, _, _, _, _, _, _, _, _, _, _, _, _, _, _, _, _, _, _, _, _, _, _, _, _, _, _, _, _, _, _, _, _, _, _, _, _, _, _, _, _, _, _, _, _, _, _, _, _, _, _, _, _, _, _, _, _, _, _, _, _, _, _, _, _, _, _, _, _, _, _, _, _, _, _, _, _, _, _, _, _, _, _, _, _, _, _, _, _, _, _, _, Nat.zero_le _, Mk.nil _ _, Below.refl _ _, rfl⟩ ?_
    refine OutI.elim ?_
    intro j D u0 u4 u5 u6 u7 u8 u9 u10 u11 u12 u13 u14 u15 u16 u17 u18 u19 u20 u21 u22 u23 u24 u25 u26 u27 u28 u29 u30 u31 u32 u33 u34 u35 u36 u37 u38 u39 u40 u41 u42 u43 u44 u45 u46 u47 u48 u49 u50 u51 u52 u53 u54 u55 u56 u57 u58 u59 u60 u61 u62 u63 u64 u65 u66 u67 u68 u69 u70 u71 u72 u73 u74 u75 u76 u77 u78 u79 u80 u81 u82 u83 u84 u85 u86 u87 u88 u89 u90 u91 u92 u93 u94 u95 u96 u97 u98 u99 u100 u101 u102 u103 u104 u105 u106 u107 u108 u109 u110 u111 u112 u113 u114 u115 u116 u117 u118 u119 u120 u121 u122 u123 u124 u125 u126 u127 u128 u129 u130 u131 u132 u133 u134 u135 u136 u137 u138 u139 u140 u141 u142 u143 u144 u145 wr hj hD hbr
    dsimp only
    have HD := Hid.mk' hD
    have HBW := Hid.mk' (Below.on HBV.out hbr)
    have e1 := cell_kept_below HB0.out.2 hbr
    clear hD
    by_cases hlt : j < m.funcs.length
    · have hf : m.funcs[j]? = some m.funcs[j] := by simp [hlt]
      obtain ⟨g0, g1, g2, g3⟩ := HG.out j _ hf
      obtain ⟨b, o, ea, c0, c1, c2, c3, c4⟩ := fns_at (HFS.out _ HBW.out) hlt
      have HIS := Hid.mk' (HIN.out _ (List.mem_of_getElem? hf))
      have hki : (j : Int) < (m.funcs.length : Int) := by omega
      generalize m.funcs[j] = f at *
      have HGI := Hid.mk' g3
      have HFDj := HFD.out f.name (wr.alloc (oF f)) (Below.one HBW.out _)
      rw [g0] at HFDj
      have hpr : decide ((f.params.length : Int) > f.regs) = false := decide_eq_false (by omega)
      have hpr2 : decide (f.regs < (f.params.length : Int)) = false := decide_eq_false (by omega)
      have HFN := Hid.mk' HFDj
      have hbx := Below.one hbr (oF f)
      have d0 := cell_kept_below HB0.out.1 hbx
      have d1 := cell_kept_below HB0.out.2 hbx
      have n0 := new_cell wr #[.string f.name, .slice f.pa f.params.length f.pc, .int .i64 f.regs, .int .i64 f.words, .slice f.ca f.code.length f.cc] 46 0 (.string f.name) rfl
      have n1 := new_cell wr #[.string f.name, .slice f.pa f.params.length f.pc, .int .i64 f.regs, .int .i64 f.words, .slice f.ca f.code.length f.cc] 46 1 (.slice f.pa f.params.length f.pc) rfl
      have n2 := new_cell wr #[.string f.name, .slice f.pa f.params.length f.pc, .int .i64 f.regs, .int .i64 f.words, .slice f.ca f.code.length f.cc] 46 2 (.int .i64 f.regs) rfl
      have n4 := new_cell wr #[.string f.name, .slice f.pa f.params.length f.pc, .int .i64 f.regs, .int .i64 f.words, .slice f.ca f.code.length f.cc] 46 4 (.slice f.ca f.code.length f.cc) rfl
      clear hf g0 g1 g3 HFDj
      rw [ea] at e1 d1 HFN
      have HFA := Hid.mk' ea
      clear ea
      unfold oF at *
      gi_wp2_with fail
      refine ⟨trivial, ?_⟩
      refine (callsIn_wide.2 HFN.out).mono ?_
      rintro e w4 ⟨rfl, hb4⟩
      replace d0 := cell_kept_below d0 hb4
      replace d1 := cell_kept_below d1 hb4
      replace n1 := cell_kept_below n1 hb4
      replace n2 := cell_kept_below n2 hb4
      replace n4 := cell_kept_below n4 hb4
      have HV4 := Hid.mk' (Below.on hbx hb4)
      have HD4 := Hid.mk' (HD.out.stay (below_alloc_on hb4))
      clear HFN HD c0 c1 c2 c3 c4 e1 hbx n0 hb4
      gi_wp2_with fail
      clear n1
      have HN := Hid.mk' (And.intro d0 (And.intro d1 (And.intro n2 n4)))
      clear d0 d1 n2 n4
      refine wpIn_loop (InI w w4 wr.heap.size j f.code.length) (fun a _ => f.code.length - (intOf (a.tmps.getD 5 undef)).toNat) ⟨0, D, _, _, _, _, _, _, _, _, _, _, _, _, _, _, _, _, _, _, _, _, _, _, _, _, _, _, _, _, _, _, _, _, _, _, _, _, _, _, _, _, _, _, _, _, _, _, _, _, _, _, _, _, _, _, _, _, _, _, _, _, _, _, _, _, _, _, _, _, _, _, _, _, _, _, _, _, _, _, _, _, _, _, _, _, _, _, _, _, _, _, _, _, _, _, _, _, _, _, _, _, _, _, _, _, _, _, _, _, _, _, _, _, _, _, _, _, _, _, _, _, _, _, _, _, _, _, _, _, _, _, _, _, _, _, _, _, _, _, _, _, _, Nat.zero_le _, HD4.out, Below.refl _ _, rfl⟩ ?_
      clear HD4
      refine InI.elim ?_
      intro k D u0 u6 u7 u8 u9 u10 u11 u12 u13 u14 u15 u16 u17 u18 u19 u20 u21 u22 u23 u24 u25 u26 u27 u28 u29 u30 u31 u32 u33 u34 u35 u36 u37 u38 u39 u40 u41 u42 u43 u44 u45 u46 u47 u48 u49 u50 u51 u52 u53 u54 u55 u56 u57 u58 u59 u60 u61 u62 u63 u64 u65 u66 u67 u68 u69 u70 u71 u72 u73 u74 u75 u76 u77 u78 u79 u80 u81 u82 u83 u84 u85 u86 u87 u88 u89 u90 u91 u92 u93 u94 u95 u96 u97 u98 u99 u100 u101 u102 u103 u104 u105 u106 u107 u108 u109 u110 u111 u112 u113 u114 u115 u116 u117 u118 u119 u120 u121 u122 u123 u124 u125 u126 u127 u128 u129 u130 u131 u132 u133 u134 u135 u136 u137 u138 u139 u140 u141 u142 u143 u144 u145 w5 hk hD hb5
      dsimp only
      have HD := Hid.mk' hD
      have HV5 := Hid.mk' (Below.on HV4.out hb5)
      obtain ⟨d0, d1, n2, n4⟩ := HN.out
      replace d0 := cell_kept_below d0 hb5
      replace d1 := cell_kept_below d1 hb5
      replace n2 := cell_kept_below n2 hb5
      replace n4 := cell_kept_below n4 hb5
      clear hD
      by_cases hlt : k < f.code.length
      · have hx : f.code[k]? = some f.code[k] := by simp [hlt]
        have HGX := HGI.out k _ hx
        obtain ⟨b', o', ea, c0, c1, c2, c3, c4⟩ := iss_at (HIS.out _ (Below.on HBV.out HV5.out)) hlt
        have hki : (k : Int) < (f.code.length : Int) := by omega
        generalize f.code[k] = x at *
        have hbx := Below.one (Below.refl _ w5) (oX x)
        have HB6 := Hid.mk' (Below.on (Below.on HBV.out HV5.out) hbx)
        have HWX := HWR.out x
        have HRX := fun p => HRD.out x p _ HB6.out
        obtain ⟨op, xa, xb, xc, xn⟩ := x
        obtain ⟨q1, q2, q3, q4, q5, q6⟩ := HGX
        unfold oX at *
        unfold Is.val at HWX HRX
        dsimp only at c0 c1 c2 c3 c4 q1 q2 q3 q4 q5 q6 HWX HRX hbx HB6
        have x0 := new_cell w5 #[.int .i64 op, .int .i64 xa, .int .i64 xb, .int .i64 xc, .int .i64 xn] 27 0 (.int .i64 op) rfl
        have x1 := new_cell w5 #[.int .i64 op, .int .i64 xa, .int .i64 xb, .int .i64 xc, .int .i64 xn] 27 1 (.int .i64 xa) rfl
        have x2 := new_cell w5 #[.int .i64 op, .int .i64 xa, .int .i64 xb, .int .i64 xc, .int .i64 xn] 27 2 (.int .i64 xb) rfl
        have x3 := new_cell w5 #[.int .i64 op, .int .i64 xa, .int .i64 xb, .int .i64 xc, .int .i64 xn] 27 3 (.int .i64 xc) rfl
        have x4 := new_cell w5 #[.int .i64 op, .int .i64 xa, .int .i64 xb, .int .i64 xc, .int .i64 xn] 27 4 (.int .i64 xn) rfl
        have m1 := cell_kept_below d1 hbx
        have y2 := cell_kept_below n2 hbx
        have y4 := cell_kept_below n4 hbx
        have hcl := HN.out
        rw [ea] at n4
        have HQ := Hid.mk' (And.intro q1 (And.intro q4 (And.intro q5 q6)))
        have HWX' := Hid.mk' HWX
        have HD6 := Hid.mk' (HD.out.stay hbx)
        have HY := Hid.mk' y4
        have HEA := Hid.mk' ea
        clear hx q1 q4 q5 q6 HWX ea y4 hcl
        by_cases h19 : op = 19
        case' pos =>
          obtain ⟨nn, rfl⟩ : ∃ nn : Nat, xn = nn := ⟨xn.toNat, by have := (q2 h19).1; omega⟩
          have hnn : nn < m.funcs.length := by have := (q2 h19).2; omega
          rw [if_pos h19, parN_at hnn] at q3
          obtain ⟨L, hL⟩ : ∃ L, rdL ⟨op, xa, xb, xc, (nn : Int)⟩ (m.funcs[nn].params.length : Int) = L := ⟨_, rfl⟩
          have HRL := HRX (m.funcs[nn].params.length : Int)
          rw [hL] at q3 HRL
          have HL3 := Hid.mk' q3
          have HRL' := Hid.mk' HRL
          obtain ⟨b3, o3, ea3, t0, t1, t2, t3, t4⟩ := fns_at (HFS.out _ HB6.out) hnn
          rw [HFA.out] at ea3
          cases ea3
          have p19 : (op == 19) = true := by simp [h19]
          have pn1 : decide ((nn : Int) < 0) = false := decide_eq_false (by omega)
          have pn2 : decide ((m.funcs.length : Int) ≤ (nn : Int)) = false := decide_eq_false (by omega)
          have pn3 : decide (m.funcs.length ≤ nn) = false := decide_eq_false (by omega)
          have pn4 : (nn : Int) < (m.funcs.length : Int) := by omega
          generalize m.funcs[nn].params.length = PL at *
          clear h19 hL q2 q3 HRX HRL t0 t2 t3 t4
          gi_wp2_with fail
        case' neg =>
          rw [if_neg h19] at q3
          obtain ⟨L, hL⟩ : ∃ L, rdL ⟨op, xa, xb, xc, xn⟩ 0 = L := ⟨_, rfl⟩
          have HRL := HRX 0
          rw [hL] at q3 HRL
          have HL3 := Hid.mk' q3
          have HRL' := Hid.mk' HRL
          have p19 : (op == 19) = false := beq_no h19
          clear h19 hL q2 q3 HRX HRL
          gi_wp2_with fail
        all_goals
          refine ⟨trivial, ?_⟩
          refine (callsIn_wide.2 HRL'.out).mono ?_
          rintro e w2 ⟨gf, B, C, rfl, hb2, htl⟩
          have hlb := htl.lb
          have hlc := htl.lc
          replace x0 := cell_kept_below x0 hb2
          replace x1 := cell_kept_below x1 hb2
          replace x2 := cell_kept_below x2 hb2
          replace x3 := cell_kept_below x3 hb2
          replace x4 := cell_kept_below x4 hb2
          replace y2 := cell_kept_below y2 hb2
          have y4 := cell_kept_below HY.out hb2
          have HD7 := Hid.mk' (HD6.out.stay hb2)
          have HB7 := Hid.mk' (Below.on HB6.out hb2)
          have HV7 := Hid.mk' (Below.on (Below.on hb5 hbx) hb2)
          have HR7 := Hid.mk' (boxed_stay HBR.out (Below.on (Below.on HV5.out hbx) hb2))
          have hsz := HB7.out.size
          clear HRL' c0 c1 c2 c3 c4 d0 d1 m1 n2 n4 hb2 HD HD6
          gi_wp2_with fail
          refine wpIn_rangeFunc_ownG rfl (by omega) (gf := gf) (lb := #[.pointer (some ⟨B, 0, none⟩), .pointer (some ⟨C, 0, none⟩)]) rfl trivial htl.enters
            (htl.stops 5 (by omega)) (fun h k => kpB_t h k) (kpB_b hlb hlc) (Below.refl _ _) (fun _ => rfl)
            (RdI w2) (RdX L)
            (fun pre X Y row h hg hr => Below.grown h hg (Below.size h) (fun k e => (hr k e).1)) (fun c pre X Y row h hg hr => h) (Below.refl _ _) ?_ ?assign ?body ?done ?stop
          case assign =>
            intro l r W K hK
            gi_wp2
            exact hK
          case stop =>
            intro D0 c pre W hD0 hS hX hK
            exact absurd hS hX
          case body =>
            intro l pre r W hi hlp
            have hi' : Below w2.heap.size w2 W := hi
            have e2 := cell_kept_below y2 hi'
            have c9 := boxed_stay HR7.out hi'
            have e9 := c9.cell
            have f9 := c9.frozen
            clear x0 x1 x2 x3 x4 y2 y4
            gi_wp2_with fail
            refine ⟨trivial, ?_⟩
            refine ((callsIn_wide.2 (HWI.out r f.regs _)).inRound l).mono ?_
            rintro e W' ⟨rfl, rfl⟩
            by_cases hin : 0 ≤ r ∧ r < f.regs
            · rw [show (decide (0 ≤ r) && decide (r < f.regs)) = true by simp [hin]]
              gi_wp2
              exact ⟨keepsFrom_refl' _ _, ⟨Nat.le_refl _, rfl, rfl⟩, hi⟩
            · rw [show (decide (0 ≤ r) && decide (r < f.regs)) = false by simpa using hin]
              gi_wp2
              exact ⟨(KeepsOthers.setCell _ _ _).from _, fun hp => hin (HL3.out r (hp.subset (by simp)))⟩
          case done =>
            rintro D0 ys W hD0 rfl hi hK
            have hi' : Below w2.heap.size w2 W := hi
            have HDn : Hid (Mk w.heap.size (mkD D0 :: D) W) := HD7.out.cons hi' hsz hD0 hK
            replace x0 := cell_kept_below x0 hi'
            replace x1 := cell_kept_below x1 hi'
            replace x2 := cell_kept_below x2 hi'
            replace x3 := cell_kept_below x3 hi'
            replace x4 := cell_kept_below x4 hi'
            replace y2 := cell_kept_below y2 hi'
            replace y4 := cell_kept_below y4 hi'
            have HV8 := Hid.mk' (Below.on HV7.out hi')
            have HB8 := Hid.mk' (Below.on HB7.out hi')
            obtain ⟨hkn, hwr, hjm, hen⟩ := HQ.out
            have HWW := Hid.mk' (HWX'.out _ HB8.out)
            have HW := Hid.mk' hwr
            have HE := Hid.mk' (ends_of hjm hen)
            clear HD7 HB7 HV7 HR7 hwr hjm hen HQ
            gi_step
            gi_step
            refine tail_in ⟨op, xa, xb, xc, _⟩ f k wr.heap.size w5.heap.size W _ _ _ _ _ _ _ _ _ _ _ _ _ _ _ _ _ _ _ _ _ _ _ _ _ _ _ _ _ _ _ _ _ _ _ _ _ _ _ _ _ _ _ _ _ _ _ _ _ _ _ _ _ _ _ _ _ _ _ _ _ _ _ _ _ _ _ _ _ _ _ _ _ _ _ _ _ _ _ _ _ _ _ _ _ _ _ _ _ _ _ _ _ _ _ _ _ _ _ _ _ _ _ _ _ _ _ _ _ _ _ _ _ _ _ _ _ _ _ _ _ _ _ _ _ _ _ _ _ _ _ _ _ _ _ _ _ _ _ _ _ _ _ _ _ HWW hlt g2 hkn HW HE x0 x1 x2 x3 x4 y2 y4 (Hid.mk' ?_)
            intro v9 v10 v86 v87 v88 v89 v90 v91 v92 v93 v94 v95 v96 v97 v98 v99 v100 v101 v102 v103 v104 v105 v106 v107 v108 v109 v110 v111 v112 v113 v114 v115 v116 v117 v118 v119 v120 v121 v122 v123 v124 v125 v126 v127 v128 v129 v130 v131 v132 v133 v134 v135 v136 v137 v138 v139 v140 v141 v142 v143 v144 v145 W' hbn
            clear x0 x1 x2 x3 x4 y2 y4 HWW HW HE
            have HDm := Hid.mk' (HDn.out.stay hbn)
            have HVm := Hid.mk' (Below.on HV8.out hbn)
            gi_wp2_with fail
            rw [show ((k : Int) + 1) = ((k + 1 : Nat) : Int) by omega]
            refine ⟨⟨k + 1, _, _, _, _, _, _, _, _, _, _, _, _, _, _, _, _, _, _, _, _, _, _, _, _, _, _, _, _, _, _, _, _, _, _, _, _, _, _, _, _, _, _, _, _, _, _, _, _, _, _, _, _, _, _, _, _, _, _, _, _, _, _, _, _, _, _, _, _, _, _, _, _, _, _, _, _, _, _, _, _, _, _, _, _, _, _, _, _, _, _, _, _, _, _, _, _, _, _, _, _, _, _, _, _, _, _, _, _, _, _, _, _, _, _, _, _, _, _, _, _, _, _, _, _, _, _, _, _, _, _, _, _, _, _, _, _, _, _, _, _, _, _, by omega, HDm.out, HVm.out, rfl⟩, ?_⟩
            simp [intOf]; omega
      · gi_wp2_with fail
        have hfc := (HFS.out _ HBW.out).1
        rw [show wrap64 ((j : Int) + 1) = ((j + 1 : Nat) : Int) by rw [wr_in _ (by omega)]; omega]
        refine ⟨⟨j + 1, D, _, _, _, _, _, _, _, _, _, _, _, _, _, _, _, _, _, _, _, _, _, _, _, _, _, _, _, _, _, _, _, _, _, _, _, _, _, _, _, _, _, _, _, _, _, _, _, _, _, _, _, _, _, _, _, _, _, _, _, _, _, _, _, _, _, _, _, _, _, _, _, _, _, _, _, _, _, _, _, _, _, _, _, _, _, _, _, _, _, _, _, _, _, _, _, _, _, _, _, _, _, _, _, _, _, _, _, _, _, _, _, _, _, _, _, _, _, _, _, _, _, _, _, _, _, _, _, _, _, _, _, _, _, _, _, _, _, _, _, _, _, _, _, by omega, HD.out, HV5.out, rfl⟩, ?_⟩
        simp [intOf]; omega
    · have c9 := boxed_stay HBR.out hbr
      have f9 := c9.frozen
      have e9 := c9.cell
      gi_wp2_with fail
      have z6 := c9.set (.bool true)
      have hss := HBW.out.size
      refine (HD.out.set c9 (.bool true)).leaves z6 (HBW.out.setCell (by simp only; omega) _) ?_
      intro W' hB' hb'
      have c6 := hB'.cell
      exact ⟨.bool true, by simp [results, Tryd.results8, go_sem, c6], rfl, hb'⟩
  · have hq2 : ∀ w, (Op.equalIn 10000 37 (.agg #[.int .i64 z0, .int .i64 z1, .int .i64 z2]) (.agg #[.int .i64 0, .int .i64 0, .int .i64 0])).run Tryd.prog w = .ok false w := fun w => by
      rw [equalIn_fl]
      congr 1
      simp only [Prod.mk.injEq] at hz
      simpa using hz
    have hss := hb.size
    have e9 := br.cell
    clear hz HM HX HG
    gi_wp2_with fail
    have z6 := br.set (.bool true)
    have c6 := z6.cell
    have hlt := br.lt
    exact ⟨.bool true, by simp [results, Tryd.results8, go_sem, c6], rfl, hb.setCell (by simp only; omega) _⟩
theorem codeLies_any (m : Mo) (w : World) (ht : Tab w) (hm : m.In w) : Calls Tryd.prog 8 #[m.val] w fun e w' => e = .returned (.bool true) ∧ Below w.heap.size w w' := callsIn_wide.1 (codeLies_in m w ht hm)
end Go.Proofs.YtlkoigdnakmdlaaDoor
