/- Type assertions and methods of values (facts of the program's tables; nothing is claimed here). -/
import Derived.Test.YtnjfkijekohdkaaDoorRmay
namespace Go.Proofs.YtnjfkijekohdkaaDoor
open Go.RowKit Go.Vf
theorem ta74_nil  (w : World) : (Instr.typeAssert (.nilIface) 32 83 true).run Tryd.prog w = .ok (.tuple #[.pointer none, .bool false]) w := by kernel_rfl
theorem ta74_81 (y : Bool) (w : World) : (Instr.typeAssert (.iface 79 (.agg #[.bool y])) 32 83 true).run Tryd.prog w = .ok (.tuple #[.pointer none, .bool false]) w := by kernel_rfl
theorem ta74_83 (b : Bool) (m : ByteArray) (w : World) : (Instr.typeAssert (.iface 81 (.agg #[.bool b, .string m])) 32 83 true).run Tryd.prog w = .ok (.tuple #[.pointer none, .bool false]) w := by kernel_rfl
theorem ta74_85 (k : Int) (r : ByteArray) (w : World) : (Instr.typeAssert (.iface 86 (.agg #[.int .u8 k, .string r])) 32 83 true).run Tryd.prog w = .ok (.tuple #[.pointer none, .bool false]) w := by kernel_rfl
theorem ta74_74 (a : Addr) (w : World) : (Instr.typeAssert (.iface 83 (.pointer (some a))) 32 83 true).run Tryd.prog w = .ok (.tuple #[.pointer (some a), .bool true]) w := by kernel_rfl
theorem ta81_nil  (w : World) : (Instr.typeAssert (.nilIface) 32 79 true).run Tryd.prog w = .ok (.tuple #[.agg #[.bool false], .bool false]) w := by kernel_rfl
theorem ta81_81 (y : Bool) (w : World) : (Instr.typeAssert (.iface 79 (.agg #[.bool y])) 32 79 true).run Tryd.prog w = .ok (.tuple #[.agg #[.bool y], .bool true]) w := by kernel_rfl
theorem ta81_83 (b : Bool) (m : ByteArray) (w : World) : (Instr.typeAssert (.iface 81 (.agg #[.bool b, .string m])) 32 79 true).run Tryd.prog w = .ok (.tuple #[.agg #[.bool false], .bool false]) w := by kernel_rfl
theorem ta81_85 (k : Int) (r : ByteArray) (w : World) : (Instr.typeAssert (.iface 86 (.agg #[.int .u8 k, .string r])) 32 79 true).run Tryd.prog w = .ok (.tuple #[.agg #[.bool false], .bool false]) w := by kernel_rfl
theorem ta81_74 (a : Addr) (w : World) : (Instr.typeAssert (.iface 83 (.pointer (some a))) 32 79 true).run Tryd.prog w = .ok (.tuple #[.agg #[.bool false], .bool false]) w := by kernel_rfl
theorem ta83_nil  (w : World) : (Instr.typeAssert (.nilIface) 32 81 true).run Tryd.prog w = .ok (.tuple #[.agg #[.bool false, .string ⟨#[]⟩], .bool false]) w := by kernel_rfl
theorem ta83_81 (y : Bool) (w : World) : (Instr.typeAssert (.iface 79 (.agg #[.bool y])) 32 81 true).run Tryd.prog w = .ok (.tuple #[.agg #[.bool false, .string ⟨#[]⟩], .bool false]) w := by kernel_rfl
theorem ta83_83 (b : Bool) (m : ByteArray) (w : World) : (Instr.typeAssert (.iface 81 (.agg #[.bool b, .string m])) 32 81 true).run Tryd.prog w = .ok (.tuple #[.agg #[.bool b, .string m], .bool true]) w := by kernel_rfl
theorem ta83_85 (k : Int) (r : ByteArray) (w : World) : (Instr.typeAssert (.iface 86 (.agg #[.int .u8 k, .string r])) 32 81 true).run Tryd.prog w = .ok (.tuple #[.agg #[.bool false, .string ⟨#[]⟩], .bool false]) w := by kernel_rfl
theorem ta83_74 (a : Addr) (w : World) : (Instr.typeAssert (.iface 83 (.pointer (some a))) 32 81 true).run Tryd.prog w = .ok (.tuple #[.agg #[.bool false, .string ⟨#[]⟩], .bool false]) w := by kernel_rfl
theorem ta85_nil  (w : World) : (Instr.typeAssert (.nilIface) 32 86 true).run Tryd.prog w = .ok (.tuple #[.agg #[.int .u8 0, .string ⟨#[]⟩], .bool false]) w := by kernel_rfl
theorem ta85_81 (y : Bool) (w : World) : (Instr.typeAssert (.iface 79 (.agg #[.bool y])) 32 86 true).run Tryd.prog w = .ok (.tuple #[.agg #[.int .u8 0, .string ⟨#[]⟩], .bool false]) w := by kernel_rfl
theorem ta85_83 (b : Bool) (m : ByteArray) (w : World) : (Instr.typeAssert (.iface 81 (.agg #[.bool b, .string m])) 32 86 true).run Tryd.prog w = .ok (.tuple #[.agg #[.int .u8 0, .string ⟨#[]⟩], .bool false]) w := by kernel_rfl
theorem ta85_85 (k : Int) (r : ByteArray) (w : World) : (Instr.typeAssert (.iface 86 (.agg #[.int .u8 k, .string r])) 32 86 true).run Tryd.prog w = .ok (.tuple #[.agg #[.int .u8 k, .string r], .bool true]) w := by kernel_rfl
theorem ta85_74 (a : Addr) (w : World) : (Instr.typeAssert (.iface 83 (.pointer (some a))) 32 86 true).run Tryd.prog w = .ok (.tuple #[.agg #[.int .u8 0, .string ⟨#[]⟩], .bool false]) w := by kernel_rfl
theorem ta44_nil  (w : World) : (Instr.typeAssert (.nilIface) 32 64 true).run Tryd.prog w = .ok (.tuple #[.nilIface, .bool false]) w := by kernel_rfl
theorem ta44_81 (y : Bool) (w : World) : (Instr.typeAssert (.iface 79 (.agg #[.bool y])) 32 64 true).run Tryd.prog w = .ok (.tuple #[.nilIface, .bool false]) w := run_typeAssert_lacksB Tryd.underlying64 (by kernel_rfl) (by kernel_rfl) _ _ w
theorem ta44_83 (b : Bool) (m : ByteArray) (w : World) : (Instr.typeAssert (.iface 81 (.agg #[.bool b, .string m])) 32 64 true).run Tryd.prog w = .ok (.tuple #[.nilIface, .bool false]) w := run_typeAssert_lacksB Tryd.underlying64 (by kernel_rfl) (by kernel_rfl) _ _ w
theorem ta44_85 (k : Int) (r : ByteArray) (w : World) : (Instr.typeAssert (.iface 86 (.agg #[.int .u8 k, .string r])) 32 64 true).run Tryd.prog w = .ok (.tuple #[.nilIface, .bool false]) w := run_typeAssert_lacksB Tryd.underlying64 (by kernel_rfl) (by kernel_rfl) _ _ w
theorem ta44_74 (a : Addr) (w : World) : (Instr.typeAssert (.iface 83 (.pointer (some a))) 32 64 true).run Tryd.prog w = .ok (.tuple #[.iface 83 (.pointer (some a)), .bool true]) w := run_typeAssert_hasB Tryd.underlying64 (by kernel_rfl) _ _ w
end Go.Proofs.YtnjfkijekohdkaaDoor
