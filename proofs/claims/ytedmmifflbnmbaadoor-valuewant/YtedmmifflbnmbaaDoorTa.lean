/- Type assertions and methods of values (facts of the program's tables; nothing is claimed here). -/
import Derived.Test.YtedmmifflbnmbaaDoorRmay
namespace Go.Proofs.YtedmmifflbnmbaaDoor
open Go.RowKit Go.Vf
theorem ta74_nil  (w : World) : (Instr.typeAssert (.nilIface) 33 88 true).run Tryd.prog w = .ok (.tuple #[.pointer none, .bool false]) w := by kernel_rfl
theorem ta74_81 (y : Bool) (w : World) : (Instr.typeAssert (.iface 84 (.agg #[.bool y])) 33 88 true).run Tryd.prog w = .ok (.tuple #[.pointer none, .bool false]) w := by kernel_rfl
theorem ta74_83 (b : Bool) (m : ByteArray) (w : World) : (Instr.typeAssert (.iface 86 (.agg #[.bool b, .string m])) 33 88 true).run Tryd.prog w = .ok (.tuple #[.pointer none, .bool false]) w := by kernel_rfl
theorem ta74_85 (k : Int) (r : ByteArray) (w : World) : (Instr.typeAssert (.iface 91 (.agg #[.int .u8 k, .string r])) 33 88 true).run Tryd.prog w = .ok (.tuple #[.pointer none, .bool false]) w := by kernel_rfl
theorem ta74_74 (a : Addr) (w : World) : (Instr.typeAssert (.iface 88 (.pointer (some a))) 33 88 true).run Tryd.prog w = .ok (.tuple #[.pointer (some a), .bool true]) w := by kernel_rfl
theorem ta81_nil  (w : World) : (Instr.typeAssert (.nilIface) 33 84 true).run Tryd.prog w = .ok (.tuple #[.agg #[.bool false], .bool false]) w := by kernel_rfl
theorem ta81_81 (y : Bool) (w : World) : (Instr.typeAssert (.iface 84 (.agg #[.bool y])) 33 84 true).run Tryd.prog w = .ok (.tuple #[.agg #[.bool y], .bool true]) w := by kernel_rfl
theorem ta81_83 (b : Bool) (m : ByteArray) (w : World) : (Instr.typeAssert (.iface 86 (.agg #[.bool b, .string m])) 33 84 true).run Tryd.prog w = .ok (.tuple #[.agg #[.bool false], .bool false]) w := by kernel_rfl
theorem ta81_85 (k : Int) (r : ByteArray) (w : World) : (Instr.typeAssert (.iface 91 (.agg #[.int .u8 k, .string r])) 33 84 true).run Tryd.prog w = .ok (.tuple #[.agg #[.bool false], .bool false]) w := by kernel_rfl
theorem ta81_74 (a : Addr) (w : World) : (Instr.typeAssert (.iface 88 (.pointer (some a))) 33 84 true).run Tryd.prog w = .ok (.tuple #[.agg #[.bool false], .bool false]) w := by kernel_rfl
theorem ta83_nil  (w : World) : (Instr.typeAssert (.nilIface) 33 86 true).run Tryd.prog w = .ok (.tuple #[.agg #[.bool false, .string ⟨#[]⟩], .bool false]) w := by kernel_rfl
theorem ta83_81 (y : Bool) (w : World) : (Instr.typeAssert (.iface 84 (.agg #[.bool y])) 33 86 true).run Tryd.prog w = .ok (.tuple #[.agg #[.bool false, .string ⟨#[]⟩], .bool false]) w := by kernel_rfl
theorem ta83_83 (b : Bool) (m : ByteArray) (w : World) : (Instr.typeAssert (.iface 86 (.agg #[.bool b, .string m])) 33 86 true).run Tryd.prog w = .ok (.tuple #[.agg #[.bool b, .string m], .bool true]) w := by kernel_rfl
theorem ta83_85 (k : Int) (r : ByteArray) (w : World) : (Instr.typeAssert (.iface 91 (.agg #[.int .u8 k, .string r])) 33 86 true).run Tryd.prog w = .ok (.tuple #[.agg #[.bool false, .string ⟨#[]⟩], .bool false]) w := by kernel_rfl
theorem ta83_74 (a : Addr) (w : World) : (Instr.typeAssert (.iface 88 (.pointer (some a))) 33 86 true).run Tryd.prog w = .ok (.tuple #[.agg #[.bool false, .string ⟨#[]⟩], .bool false]) w := by kernel_rfl
theorem ta85_nil  (w : World) : (Instr.typeAssert (.nilIface) 33 91 true).run Tryd.prog w = .ok (.tuple #[.agg #[.int .u8 0, .string ⟨#[]⟩], .bool false]) w := by kernel_rfl
theorem ta85_81 (y : Bool) (w : World) : (Instr.typeAssert (.iface 84 (.agg #[.bool y])) 33 91 true).run Tryd.prog w = .ok (.tuple #[.agg #[.int .u8 0, .string ⟨#[]⟩], .bool false]) w := by kernel_rfl
theorem ta85_83 (b : Bool) (m : ByteArray) (w : World) : (Instr.typeAssert (.iface 86 (.agg #[.bool b, .string m])) 33 91 true).run Tryd.prog w = .ok (.tuple #[.agg #[.int .u8 0, .string ⟨#[]⟩], .bool false]) w := by kernel_rfl
theorem ta85_85 (k : Int) (r : ByteArray) (w : World) : (Instr.typeAssert (.iface 91 (.agg #[.int .u8 k, .string r])) 33 91 true).run Tryd.prog w = .ok (.tuple #[.agg #[.int .u8 k, .string r], .bool true]) w := by kernel_rfl
theorem ta85_74 (a : Addr) (w : World) : (Instr.typeAssert (.iface 88 (.pointer (some a))) 33 91 true).run Tryd.prog w = .ok (.tuple #[.agg #[.int .u8 0, .string ⟨#[]⟩], .bool false]) w := by kernel_rfl
theorem ta44_nil  (w : World) : (Instr.typeAssert (.nilIface) 33 52 true).run Tryd.prog w = .ok (.tuple #[.nilIface, .bool false]) w := by kernel_rfl
theorem ta44_81 (y : Bool) (w : World) : (Instr.typeAssert (.iface 84 (.agg #[.bool y])) 33 52 true).run Tryd.prog w = .ok (.tuple #[.nilIface, .bool false]) w := run_typeAssert_lacksB Tryd.underlying52 (by kernel_rfl) (by kernel_rfl) _ _ w
theorem ta44_83 (b : Bool) (m : ByteArray) (w : World) : (Instr.typeAssert (.iface 86 (.agg #[.bool b, .string m])) 33 52 true).run Tryd.prog w = .ok (.tuple #[.nilIface, .bool false]) w := run_typeAssert_lacksB Tryd.underlying52 (by kernel_rfl) (by kernel_rfl) _ _ w
theorem ta44_85 (k : Int) (r : ByteArray) (w : World) : (Instr.typeAssert (.iface 91 (.agg #[.int .u8 k, .string r])) 33 52 true).run Tryd.prog w = .ok (.tuple #[.nilIface, .bool false]) w := run_typeAssert_lacksB Tryd.underlying52 (by kernel_rfl) (by kernel_rfl) _ _ w
theorem ta44_74 (a : Addr) (w : World) : (Instr.typeAssert (.iface 88 (.pointer (some a))) 33 52 true).run Tryd.prog w = .ok (.tuple #[.iface 88 (.pointer (some a)), .bool true]) w := run_typeAssert_hasB Tryd.underlying52 (by kernel_rfl) _ _ w
theorem ta58_nil  (w : World) : (Instr.typeAssert (.nilIface) 33 58 true).run Tryd.prog w = .ok (.tuple #[.nilIface, .bool false]) w := by kernel_rfl
theorem ta58_81 (y : Bool) (w : World) : (Instr.typeAssert (.iface 84 (.agg #[.bool y])) 33 58 true).run Tryd.prog w = .ok (.tuple #[.nilIface, .bool false]) w := run_typeAssert_lacksB Tryd.underlying58 (by kernel_rfl) (by kernel_rfl) _ _ w
theorem ta58_83 (b : Bool) (m : ByteArray) (w : World) : (Instr.typeAssert (.iface 86 (.agg #[.bool b, .string m])) 33 58 true).run Tryd.prog w = .ok (.tuple #[.nilIface, .bool false]) w := run_typeAssert_lacksB Tryd.underlying58 (by kernel_rfl) (by kernel_rfl) _ _ w
theorem ta58_85 (k : Int) (r : ByteArray) (w : World) : (Instr.typeAssert (.iface 91 (.agg #[.int .u8 k, .string r])) 33 58 true).run Tryd.prog w = .ok (.tuple #[.iface 91 (.agg #[.int .u8 k, .string r]), .bool true]) w := run_typeAssert_hasB Tryd.underlying58 (by kernel_rfl) _ _ w
theorem ta58_74 (a : Addr) (w : World) : (Instr.typeAssert (.iface 88 (.pointer (some a))) 33 58 true).run Tryd.prog w = .ok (.tuple #[.nilIface, .bool false]) w := run_typeAssert_lacksB Tryd.underlying58 (by kernel_rfl) (by kernel_rfl) _ _ w
theorem ta67_nil  (w : World) : (Instr.typeAssert (.nilIface) 33 74 true).run Tryd.prog w = .ok (.tuple #[.nilIface, .bool false]) w := by kernel_rfl
theorem ta67_81 (y : Bool) (w : World) : (Instr.typeAssert (.iface 84 (.agg #[.bool y])) 33 74 true).run Tryd.prog w = .ok (.tuple #[.nilIface, .bool false]) w := run_typeAssert_lacksB Tryd.underlying74 (by kernel_rfl) (by kernel_rfl) _ _ w
theorem ta67_83 (b : Bool) (m : ByteArray) (w : World) : (Instr.typeAssert (.iface 86 (.agg #[.bool b, .string m])) 33 74 true).run Tryd.prog w = .ok (.tuple #[.iface 86 (.agg #[.bool b, .string m]), .bool true]) w := run_typeAssert_hasB Tryd.underlying74 (by kernel_rfl) _ _ w
theorem ta67_85 (k : Int) (r : ByteArray) (w : World) : (Instr.typeAssert (.iface 91 (.agg #[.int .u8 k, .string r])) 33 74 true).run Tryd.prog w = .ok (.tuple #[.nilIface, .bool false]) w := run_typeAssert_lacksB Tryd.underlying74 (by kernel_rfl) (by kernel_rfl) _ _ w
theorem ta67_74 (a : Addr) (w : World) : (Instr.typeAssert (.iface 88 (.pointer (some a))) 33 74 true).run Tryd.prog w = .ok (.tuple #[.nilIface, .bool false]) w := run_typeAssert_lacksB Tryd.underlying74 (by kernel_rfl) (by kernel_rfl) _ _ w
end Go.Proofs.YtedmmifflbnmbaaDoor
