/- Type assertions and methods of values (facts of the program's tables; nothing is claimed here). -/
import Derived.Test.YtedmmifflbnmbaaRmay
namespace Go.Proofs.Ytedmmifflbnmbaa
open Go.RowKit Go.Vf
theorem ta74_nil  (w : World) : (Instr.typeAssert (.nilIface) 31 74 true).run Try.prog w = .ok (.tuple #[.pointer none, .bool false]) w := by kernel_rfl
theorem ta74_81 (y : Bool) (w : World) : (Instr.typeAssert (.iface 81 (.agg #[.bool y])) 31 74 true).run Try.prog w = .ok (.tuple #[.pointer none, .bool false]) w := by kernel_rfl
theorem ta74_83 (b : Bool) (m : ByteArray) (w : World) : (Instr.typeAssert (.iface 83 (.agg #[.bool b, .string m])) 31 74 true).run Try.prog w = .ok (.tuple #[.pointer none, .bool false]) w := by kernel_rfl
theorem ta74_85 (k : Int) (r : ByteArray) (w : World) : (Instr.typeAssert (.iface 85 (.agg #[.int .u8 k, .string r])) 31 74 true).run Try.prog w = .ok (.tuple #[.pointer none, .bool false]) w := by kernel_rfl
theorem ta74_74 (a : Addr) (w : World) : (Instr.typeAssert (.iface 74 (.pointer (some a))) 31 74 true).run Try.prog w = .ok (.tuple #[.pointer (some a), .bool true]) w := by kernel_rfl
theorem ta81_nil  (w : World) : (Instr.typeAssert (.nilIface) 31 81 true).run Try.prog w = .ok (.tuple #[.agg #[.bool false], .bool false]) w := by kernel_rfl
theorem ta81_81 (y : Bool) (w : World) : (Instr.typeAssert (.iface 81 (.agg #[.bool y])) 31 81 true).run Try.prog w = .ok (.tuple #[.agg #[.bool y], .bool true]) w := by kernel_rfl
theorem ta81_83 (b : Bool) (m : ByteArray) (w : World) : (Instr.typeAssert (.iface 83 (.agg #[.bool b, .string m])) 31 81 true).run Try.prog w = .ok (.tuple #[.agg #[.bool false], .bool false]) w := by kernel_rfl
theorem ta81_85 (k : Int) (r : ByteArray) (w : World) : (Instr.typeAssert (.iface 85 (.agg #[.int .u8 k, .string r])) 31 81 true).run Try.prog w = .ok (.tuple #[.agg #[.bool false], .bool false]) w := by kernel_rfl
theorem ta81_74 (a : Addr) (w : World) : (Instr.typeAssert (.iface 74 (.pointer (some a))) 31 81 true).run Try.prog w = .ok (.tuple #[.agg #[.bool false], .bool false]) w := by kernel_rfl
theorem ta83_nil  (w : World) : (Instr.typeAssert (.nilIface) 31 83 true).run Try.prog w = .ok (.tuple #[.agg #[.bool false, .string ⟨#[]⟩], .bool false]) w := by kernel_rfl
theorem ta83_81 (y : Bool) (w : World) : (Instr.typeAssert (.iface 81 (.agg #[.bool y])) 31 83 true).run Try.prog w = .ok (.tuple #[.agg #[.bool false, .string ⟨#[]⟩], .bool false]) w := by kernel_rfl
theorem ta83_83 (b : Bool) (m : ByteArray) (w : World) : (Instr.typeAssert (.iface 83 (.agg #[.bool b, .string m])) 31 83 true).run Try.prog w = .ok (.tuple #[.agg #[.bool b, .string m], .bool true]) w := by kernel_rfl
theorem ta83_85 (k : Int) (r : ByteArray) (w : World) : (Instr.typeAssert (.iface 85 (.agg #[.int .u8 k, .string r])) 31 83 true).run Try.prog w = .ok (.tuple #[.agg #[.bool false, .string ⟨#[]⟩], .bool false]) w := by kernel_rfl
theorem ta83_74 (a : Addr) (w : World) : (Instr.typeAssert (.iface 74 (.pointer (some a))) 31 83 true).run Try.prog w = .ok (.tuple #[.agg #[.bool false, .string ⟨#[]⟩], .bool false]) w := by kernel_rfl
theorem ta85_nil  (w : World) : (Instr.typeAssert (.nilIface) 31 85 true).run Try.prog w = .ok (.tuple #[.agg #[.int .u8 0, .string ⟨#[]⟩], .bool false]) w := by kernel_rfl
theorem ta85_81 (y : Bool) (w : World) : (Instr.typeAssert (.iface 81 (.agg #[.bool y])) 31 85 true).run Try.prog w = .ok (.tuple #[.agg #[.int .u8 0, .string ⟨#[]⟩], .bool false]) w := by kernel_rfl
theorem ta85_83 (b : Bool) (m : ByteArray) (w : World) : (Instr.typeAssert (.iface 83 (.agg #[.bool b, .string m])) 31 85 true).run Try.prog w = .ok (.tuple #[.agg #[.int .u8 0, .string ⟨#[]⟩], .bool false]) w := by kernel_rfl
theorem ta85_85 (k : Int) (r : ByteArray) (w : World) : (Instr.typeAssert (.iface 85 (.agg #[.int .u8 k, .string r])) 31 85 true).run Try.prog w = .ok (.tuple #[.agg #[.int .u8 k, .string r], .bool true]) w := by kernel_rfl
theorem ta85_74 (a : Addr) (w : World) : (Instr.typeAssert (.iface 74 (.pointer (some a))) 31 85 true).run Try.prog w = .ok (.tuple #[.agg #[.int .u8 0, .string ⟨#[]⟩], .bool false]) w := by kernel_rfl
theorem ta44_nil  (w : World) : (Instr.typeAssert (.nilIface) 31 44 true).run Try.prog w = .ok (.tuple #[.nilIface, .bool false]) w := by kernel_rfl
theorem ta44_81 (y : Bool) (w : World) : (Instr.typeAssert (.iface 81 (.agg #[.bool y])) 31 44 true).run Try.prog w = .ok (.tuple #[.nilIface, .bool false]) w := run_typeAssert_lacksB Try.underlying44 (by kernel_rfl) (by kernel_rfl) _ _ w
theorem ta44_83 (b : Bool) (m : ByteArray) (w : World) : (Instr.typeAssert (.iface 83 (.agg #[.bool b, .string m])) 31 44 true).run Try.prog w = .ok (.tuple #[.nilIface, .bool false]) w := run_typeAssert_lacksB Try.underlying44 (by kernel_rfl) (by kernel_rfl) _ _ w
theorem ta44_85 (k : Int) (r : ByteArray) (w : World) : (Instr.typeAssert (.iface 85 (.agg #[.int .u8 k, .string r])) 31 44 true).run Try.prog w = .ok (.tuple #[.nilIface, .bool false]) w := run_typeAssert_lacksB Try.underlying44 (by kernel_rfl) (by kernel_rfl) _ _ w
theorem ta44_74 (a : Addr) (w : World) : (Instr.typeAssert (.iface 74 (.pointer (some a))) 31 44 true).run Try.prog w = .ok (.tuple #[.iface 74 (.pointer (some a)), .bool true]) w := run_typeAssert_hasB Try.underlying44 (by kernel_rfl) _ _ w
theorem ta58_nil  (w : World) : (Instr.typeAssert (.nilIface) 31 58 true).run Try.prog w = .ok (.tuple #[.nilIface, .bool false]) w := by kernel_rfl
theorem ta58_81 (y : Bool) (w : World) : (Instr.typeAssert (.iface 81 (.agg #[.bool y])) 31 58 true).run Try.prog w = .ok (.tuple #[.nilIface, .bool false]) w := run_typeAssert_lacksB Try.underlying58 (by kernel_rfl) (by kernel_rfl) _ _ w
theorem ta58_83 (b : Bool) (m : ByteArray) (w : World) : (Instr.typeAssert (.iface 83 (.agg #[.bool b, .string m])) 31 58 true).run Try.prog w = .ok (.tuple #[.nilIface, .bool false]) w := run_typeAssert_lacksB Try.underlying58 (by kernel_rfl) (by kernel_rfl) _ _ w
theorem ta58_85 (k : Int) (r : ByteArray) (w : World) : (Instr.typeAssert (.iface 85 (.agg #[.int .u8 k, .string r])) 31 58 true).run Try.prog w = .ok (.tuple #[.iface 85 (.agg #[.int .u8 k, .string r]), .bool true]) w := run_typeAssert_hasB Try.underlying58 (by kernel_rfl) _ _ w
theorem ta58_74 (a : Addr) (w : World) : (Instr.typeAssert (.iface 74 (.pointer (some a))) 31 58 true).run Try.prog w = .ok (.tuple #[.nilIface, .bool false]) w := run_typeAssert_lacksB Try.underlying58 (by kernel_rfl) (by kernel_rfl) _ _ w
theorem ta67_nil  (w : World) : (Instr.typeAssert (.nilIface) 31 67 true).run Try.prog w = .ok (.tuple #[.nilIface, .bool false]) w := by kernel_rfl
theorem ta67_81 (y : Bool) (w : World) : (Instr.typeAssert (.iface 81 (.agg #[.bool y])) 31 67 true).run Try.prog w = .ok (.tuple #[.nilIface, .bool false]) w := run_typeAssert_lacksB Try.underlying67 (by kernel_rfl) (by kernel_rfl) _ _ w
theorem ta67_83 (b : Bool) (m : ByteArray) (w : World) : (Instr.typeAssert (.iface 83 (.agg #[.bool b, .string m])) 31 67 true).run Try.prog w = .ok (.tuple #[.iface 83 (.agg #[.bool b, .string m]), .bool true]) w := run_typeAssert_hasB Try.underlying67 (by kernel_rfl) _ _ w
theorem ta67_85 (k : Int) (r : ByteArray) (w : World) : (Instr.typeAssert (.iface 85 (.agg #[.int .u8 k, .string r])) 31 67 true).run Try.prog w = .ok (.tuple #[.nilIface, .bool false]) w := run_typeAssert_lacksB Try.underlying67 (by kernel_rfl) (by kernel_rfl) _ _ w
theorem ta67_74 (a : Addr) (w : World) : (Instr.typeAssert (.iface 74 (.pointer (some a))) 31 67 true).run Try.prog w = .ok (.tuple #[.nilIface, .bool false]) w := run_typeAssert_lacksB Try.underlying67 (by kernel_rfl) (by kernel_rfl) _ _ w
end Go.Proofs.Ytedmmifflbnmbaa
