import Derived.Test.YtfbjhialjepodaaNtRC
import Derived.Test.YtfbjhialjepodaaNtL7
import Derived.Test.YtfbjhialjepodaaNtL5
import Derived.Test.YtfbjhialjepodaaBytesF
namespace Go.Proofs.Ytfbjhialjepodaa
open Go Go.RowKit
theorem bounds_u8 {a : Int} (h : (Lit.int .u8 a).wf = true) : 0 ≤ a ∧ a < 256 := by
  simp [Lit.wf] at h
  have h1 : IntKind.u8.min = 0 := by rfl
  have h2 : IntKind.u8.max = 255 := by rfl
  omega
theorem bounds_u16 {a : Int} (h : (Lit.int .u16 a).wf = true) : 0 ≤ a ∧ a < 65536 := by
  simp [Lit.wf] at h
  have h1 : IntKind.u16.min = 0 := by rfl
  have h2 : IntKind.u16.max = 65535 := by rfl
  omega
theorem bounds_i64 {a : Int} (h : (Lit.int .i64 a).wf = true) : I64n a := by
  simp [Lit.wf] at h
  have h1 : IntKind.i64.min = -9223372036854775808 := by rfl
  have h2 : IntKind.i64.max = 9223372036854775807 := by rfl
  unfold I64n
  omega
end Go.Proofs.Ytfbjhialjepodaa
