/-
  What the program makes of a frame. For every frame.
-/
import Derived.Test.YtlhfgpcanfpnfaaDoorFrameOf
namespace Go.Proofs.YtlhfgpcanfpnfaaDoor.frame
open Go.ChangeShapes Go.WideShapes Go.ChangeAt Go.RowKit
open Go.Proofs.YtlhfgpcanfpnfaaDoor.line Go.Proofs.YtlhfgpcanfpnfaaDoor.all_
theorem rightM_1 (a : Int) (t : ByteArray) (w : World) : (method 243 61 (.agg #[.int .i64 a, .string t]) "loop.example/g00731/impl.right").run Tryd.prog w = .ok (83, .agg #[.int .i64 a, .string t]) w := by kernel_rfl
theorem writtenM_1 (a : Int) (t : ByteArray) (w : World) : (method 243 61 (.agg #[.int .i64 a, .string t]) "loop.example/g00731/impl.written").run Tryd.prog w = .ok (92, .agg #[.int .i64 a, .string t]) w := by kernel_rfl
theorem rightM_2 (a : Int) (t : ByteArray) (w : World) : (method 243 62 (.agg #[.int .i64 a, .string t]) "loop.example/g00731/impl.right").run Tryd.prog w = .ok (83, .agg #[.int .i64 a, .string t]) w := by kernel_rfl
theorem writtenM_2 (a : Int) (t : ByteArray) (w : World) : (method 243 62 (.agg #[.int .i64 a, .string t]) "loop.example/g00731/impl.written").run Tryd.prog w = .ok (104, .agg #[.int .i64 a, .string t]) w := by kernel_rfl
theorem rightM_3 (a : Int) (w : World) : (method 243 64 (.agg #[.int .i64 a]) "loop.example/g00731/impl.right").run Tryd.prog w = .ok (105, .agg #[.int .i64 a]) w := by kernel_rfl
theorem writtenM_3 (a : Int) (w : World) : (method 243 64 (.agg #[.int .i64 a]) "loop.example/g00731/impl.written").run Tryd.prog w = .ok (106, .agg #[.int .i64 a]) w := by kernel_rfl
theorem rightM_4 (a : Int) (t : ByteArray) (w : World) : (method 243 65 (.agg #[.int .i64 a, .string t]) "loop.example/g00731/impl.right").run Tryd.prog w = .ok (107, .agg #[.int .i64 a, .string t]) w := by kernel_rfl
theorem writtenM_4 (a : Int) (t : ByteArray) (w : World) : (method 243 65 (.agg #[.int .i64 a, .string t]) "loop.example/g00731/impl.written").run Tryd.prog w = .ok (108, .agg #[.int .i64 a, .string t]) w := by kernel_rfl
theorem rightM_5 (t : ByteArray) (w : World) : (method 243 67 (.agg #[.string t]) "loop.example/g00731/impl.right").run Tryd.prog w = .ok (109, .agg #[.string t]) w := by kernel_rfl
theorem writtenM_5 (t : ByteArray) (w : World) : (method 243 67 (.agg #[.string t]) "loop.example/g00731/impl.written").run Tryd.prog w = .ok (110, .agg #[.string t]) w := by kernel_rfl
theorem rightM_6 (w : World) : (method 243 69 (.agg #[]) "loop.example/g00731/impl.right").run Tryd.prog w = .ok (111, .agg #[]) w := by kernel_rfl
theorem writtenM_6 (w : World) : (method 243 69 (.agg #[]) "loop.example/g00731/impl.written").run Tryd.prog w = .ok (112, .agg #[]) w := by kernel_rfl
theorem rightM_7 (t : ByteArray) (w : World) : (method 243 70 (.agg #[.string t]) "loop.example/g00731/impl.right").run Tryd.prog w = .ok (113, .agg #[.string t]) w := by kernel_rfl
theorem writtenM_7 (t : ByteArray) (w : World) : (method 243 70 (.agg #[.string t]) "loop.example/g00731/impl.written").run Tryd.prog w = .ok (114, .agg #[.string t]) w := by kernel_rfl
end Go.Proofs.YtlhfgpcanfpnfaaDoor.frame
