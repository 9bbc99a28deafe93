/- Contracts and lemmas (nothing is claimed here). -/
import Derived.Shelf.SlIterI.Nil
import Derived.Ground.GgzProg
import Derived.Shelf.Strings.Builder1
import Derived.Shelf.Strings.Builder2
import Derived.Shelf.Strings.OnBuilder
import Derived.Shelf.Small.Utf8
import Derived.Shelf.Utf8.RuneCount
import Derived.Shelf.Strconv.Itoa0
import Derived.Shelf.Strconv.Itoa1
import Derived.Shelf.Strconv.Itoa2
import Derived.Shelf.Strconv.Itoa3
import Derived.Shelf.Strconv.AppendUint10
import Derived.Shelf.Strconv.AppendInt10
import Derived.Shelf.Strconv.AppendIntPublic10
import Derived.Shelf.Unicode.Latin
import Derived.Shelf.Unicode.Decode
import Derived.Shelf.Strings.RuneCount
import Derived.Shelf.Strings.Explode
import Derived.Shelf.Unicode.DecodeSlow
import Derived.Shelf.Unicode.DecodeAny
import Derived.Shelf.Unicode.CaseLookup
import Derived.Shelf.Unicode.CaseConvert
import Derived.Shelf.Unicode.CaseTo
import Derived.Shelf.Unicode.CaseLaid
import Derived.Ground.Names2Prog
import Derived.Shelf.Slices.Clone
import Derived.Shelf.Slices.SearchI
import Derived.Shelf.SlicesE.Clone
import Derived.Ground.SlsfProg
import Derived.Shelf.SlSortCmp.Insertion
import Derived.Ground.SlgmProg
import Derived.Shelf.SortM.Plain
import Derived.Shelf.SortM.SortNone
import Derived.Test.YtfhpgmlfgjfknaaGreatDoorJ7
import Derived.Lib.Case
namespace Go.Proofs
open Go.Shelf
open Go.RowKit in
def Tryz.lays158_ren:Go.Shelf.Ren:=⟨fun | 158=>180 | 165=>210 | 166=>211 | 167=>212 | 169=>213 | 230=>214 | 203=>215 | 240=>229 | 241=>230 | 197=>166 | 118=>231 | 168=>232 | 270=>233 | 262=>234 | 276=>241 | 277=>242 | 260=>202 | 242=>243 | 313=>244 | 278=>249 | 274=>250 | 275=>251 | n=>n,fun | 9=>9 | 4=>4 | 3=>3 | 5=>5 | 72=>263 | 0=>0 | 76=>266 | 75=>265 | 107=>271 | 70=>261 | 20=>20 | 37=>74 | 127=>287 | 21=>21 | 105=>233 | 164=>298 | 162=>304 | 203=>302 | 119=>281 | 46=>129 | 139=>284 | 138=>283 | 51=>252 | 160=>308 | 208=>314 | 206=>312 | 80=>269 | n=>n,fun | 13=>5 | 3=>3 | 4=>4 | n=>n⟩
theorem Tryz.lays158:Go.Proofs.Lays.n158 Tryz.prog Tryz.lays158_ren:= {
 mixed:=by kernel_rfl
 f118:=Tryz.func231.trans (congrArg some (by kernel_rfl))
 f158:=Tryz.func180.trans (congrArg some (by kernel_rfl))
 f165:=Tryz.func210.trans (congrArg some (by kernel_rfl))
 f166:=Tryz.func211.trans (congrArg some (by kernel_rfl))
 f167:=Tryz.func212.trans (congrArg some (by kernel_rfl))
 f168:=Tryz.func232.trans (congrArg some (by kernel_rfl))
 f169:=Tryz.func213.trans (congrArg some (by kernel_rfl))
 f197:=Tryz.func166.trans (congrArg some (by kernel_rfl))
 f203:=Tryz.func215.trans (congrArg some (by kernel_rfl))
 f230:=Tryz.func214.trans (congrArg some (by kernel_rfl))
 f240:=Tryz.func229.trans (congrArg some (by kernel_rfl))
 f241:=Tryz.func230.trans (congrArg some (by kernel_rfl))
 f242:=Tryz.func243.trans (congrArg some (by kernel_rfl))
 f260:=Tryz.func202.trans (congrArg some (by kernel_rfl))
 f262:=Tryz.func234.trans (congrArg some (by kernel_rfl))
 f270:=Tryz.func233.trans (congrArg some (by kernel_rfl))
 f274:=Tryz.func250.trans (congrArg some (by kernel_rfl))
 f275:=Tryz.func251.trans (congrArg some (by kernel_rfl))
 f276:=Tryz.func241.trans (congrArg some (by kernel_rfl))
 f277:=Tryz.func242.trans (congrArg some (by kernel_rfl))
 f278:=Tryz.func249.trans (congrArg some (by kernel_rfl))
 f313:=Tryz.func244.trans (congrArg some (by kernel_rfl))
 t0:=Tryz.underlying0
 a0:=Tryz.isAgg0
 z0:=Tryz.sizeOf0
 v0:=Tryz.zeroValue0
 t3:=Tryz.underlying3
 a3:=Tryz.isAgg3
 z3:=Tryz.sizeOf3
 v3:=Tryz.zeroValue3
 t4:=Tryz.underlying4
 a4:=Tryz.isAgg4
 z4:=Tryz.sizeOf4
 v4:=Tryz.zeroValue4
 t5:=Tryz.underlying5
 a5:=Tryz.isAgg5
 z5:=Tryz.sizeOf5
 v5:=Tryz.zeroValue5
 t9:=Tryz.underlying9
 a9:=Tryz.isAgg9
 z9:=Tryz.sizeOf9
 v9:=Tryz.zeroValue9
 t20:=Tryz.underlying20
 a20:=Tryz.isAgg20
 z20:=Tryz.sizeOf20
 v20:=Tryz.zeroValue20
 t21:=Tryz.underlying21
 a21:=Tryz.isAgg21
 z21:=Tryz.sizeOf21
 v21:=Tryz.zeroValue21
 t37:=Tryz.underlying74
 a37:=Tryz.isAgg74
 z37:=Tryz.sizeOf74
 v37:=Tryz.zeroValue74
 t46:=Tryz.underlying129
 a46:=Tryz.isAgg129
 z46:=Tryz.sizeOf129
 v46:=Tryz.zeroValue129
 t51:=Tryz.underlying252
 a51:=Tryz.isAgg252
 z51:=Tryz.sizeOf252
 v51:=Tryz.zeroValue252
 t70:=Tryz.underlying261
 a70:=Tryz.isAgg261
 z70:=Tryz.sizeOf261
 v70:=Tryz.zeroValue261
 t72:=Tryz.underlying263
 a72:=Tryz.isAgg263
 z72:=Tryz.sizeOf263
 v72:=Tryz.zeroValue263
 t75:=Tryz.underlying265
 a75:=Tryz.isAgg265
 z75:=Tryz.sizeOf265
 v75:=Tryz.zeroValue265
 t76:=Tryz.underlying266
 a76:=Tryz.isAgg266
 z76:=Tryz.sizeOf266
 v76:=Tryz.zeroValue266
 t105:=Tryz.underlying233
 a105:=Tryz.isAgg233
 z105:=Tryz.sizeOf233
 v105:=Tryz.zeroValue233
 t107:=Tryz.underlying271
 a107:=Tryz.isAgg271
 z107:=Tryz.sizeOf271
 v107:=Tryz.zeroValue271
 t119:=Tryz.underlying281
 a119:=Tryz.isAgg281
 z119:=Tryz.sizeOf281
 t127:=Tryz.underlying287
 a127:=Tryz.isAgg287
 z127:=Tryz.sizeOf287
 v127:=Tryz.zeroValue287
 t138:=Tryz.underlying283
 a138:=Tryz.isAgg283
 z138:=Tryz.sizeOf283
 v138:=Tryz.zeroValue283
 t139:=Tryz.underlying284
 a139:=Tryz.isAgg284
 z139:=Tryz.sizeOf284
 v139:=Tryz.zeroValue284
 t160:=Tryz.underlying308
 a160:=Tryz.isAgg308
 z160:=Tryz.sizeOf308
 v160:=Tryz.zeroValue308
 t162:=Tryz.underlying304
 a162:=Tryz.isAgg304
 z162:=Tryz.sizeOf304
 v162:=Tryz.zeroValue304
 t164:=Tryz.underlying298
 a164:=Tryz.isAgg298
 z164:=Tryz.sizeOf298
 v164:=Tryz.zeroValue298
 t203:=Tryz.underlying302
 a203:=Tryz.isAgg302
 z203:=Tryz.sizeOf302
 v203:=Tryz.zeroValue302
 t206:=Tryz.underlying312
 a206:=Tryz.isAgg312
 z206:=Tryz.sizeOf312
 v206:=Tryz.zeroValue312
 t208:=Tryz.underlying314
 a208:=Tryz.isAgg314
 z208:=Tryz.sizeOf314
 v208:=Tryz.zeroValue314
 g3:=by kernel_rfl
 g4:=by kernel_rfl
 g13:=by kernel_rfl}
theorem Tryz.Builder_Extra_158:Builder.Extra Tryz.prog Tryz.lays158_ren:= {
 sizeBuilder:=by kernel_rfl
 liesBuilder:=by kernel_rfl
 t5:=Tryz.underlying5
 a5:=Tryz.isAgg5
 z5:=Tryz.sizeOf5
 v5:=Tryz.zeroValue5
 infoByte:=by kernel_rfl
 cellsByte:=by kernel_rfl
 sizeByte:=by kernel_rfl
 neB5:=by decide}
open Go.RowKit in
theorem Tryz.strings_ToUpper_ascii (s:ByteArray)(w:World)(hs:s.size≤140737488355328)(hascii: ∀(j:Nat) (b:UInt8),s.data.toList[j]? =some b→b.toNat<128):
  Calls Tryz.prog 180 #[.string s] w fun e w'=>e=.returned (.string ⟨(Lib.toUpperA s.data.toList).toArray⟩)∧Below w.heap.size w w':=Any.strings_ToUpper_ascii Tryz.lays158 Tryz.Builder_Extra_158 s w hs hascii
def Tryz.laysM176_ren:Go.Shelf.Ren:=⟨fun | 176=>156 | 249=>182 | 288=>217 | 283=>235 | 284=>236 | 285=>237 | 286=>238 | 129=>193 | 317=>245 | 318=>246 | 319=>247 | 320=>248 | 337=>252 | 338=>253 | n=>n,fun | 37=>74 | 2=>2 | 3=>3 | 53=>254 | 4=>4 | 9=>9 | 171=>291 | 0=>0 | 173=>293 | 212=>306 | 51=>252 | 5=>5 | 20=>20 | 213=>307 | 46=>129 | 232=>315 | 233=>316 | n=>n,fun | 17=>6 | 18=>7 | 19=>8 | n=>n⟩
theorem Tryz.laysM176:Go.Proofs.LaysM.n176 Tryz.prog Tryz.laysM176_ren:= {
 mixed:=by kernel_rfl
 f129:=Tryz.func193.trans (congrArg some (by kernel_rfl))
 f176:=Tryz.func156.trans (congrArg some (by kernel_rfl))
 f249:=Tryz.func182.trans (congrArg some (by kernel_rfl))
 f283:=Tryz.func235.trans (congrArg some (by kernel_rfl))
 f284:=Tryz.func236.trans (congrArg some (by kernel_rfl))
 f285:=Tryz.func237.trans (congrArg some (by kernel_rfl))
 f286:=Tryz.func238.trans (congrArg some (by kernel_rfl))
 f288:=Tryz.func217.trans (congrArg some (by kernel_rfl))
 f317:=Tryz.func245.trans (congrArg some (by kernel_rfl))
 f318:=Tryz.func246.trans (congrArg some (by kernel_rfl))
 f319:=Tryz.func247.trans (congrArg some (by kernel_rfl))
 f320:=Tryz.func248.trans (congrArg some (by kernel_rfl))
 f337:=Tryz.func252.trans (congrArg some (by kernel_rfl))
 f338:=Tryz.func253.trans (congrArg some (by kernel_rfl))
 t0:=Tryz.underlying0
 a0:=Tryz.isAgg0
 z0:=Tryz.sizeOf0
 v0:=Tryz.zeroValue0
 t2:=Tryz.underlying2
 a2:=Tryz.isAgg2
 z2:=Tryz.sizeOf2
 v2:=Tryz.zeroValue2
 t3:=Tryz.underlying3
 a3:=Tryz.isAgg3
 z3:=Tryz.sizeOf3
 v3:=Tryz.zeroValue3
 t4:=Tryz.underlying4
 a4:=Tryz.isAgg4
 z4:=Tryz.sizeOf4
 v4:=Tryz.zeroValue4
 t5:=Tryz.underlying5
 a5:=Tryz.isAgg5
 z5:=Tryz.sizeOf5
 v5:=Tryz.zeroValue5
 t9:=Tryz.underlying9
 a9:=Tryz.isAgg9
 z9:=Tryz.sizeOf9
 v9:=Tryz.zeroValue9
 t20:=Tryz.underlying20
 a20:=Tryz.isAgg20
 z20:=Tryz.sizeOf20
 v20:=Tryz.zeroValue20
 t37:=Tryz.underlying74
 a37:=Tryz.isAgg74
 z37:=Tryz.sizeOf74
 v37:=Tryz.zeroValue74
 t46:=Tryz.underlying129
 a46:=Tryz.isAgg129
 z46:=Tryz.sizeOf129
 v46:=Tryz.zeroValue129
 t51:=Tryz.underlying252
 a51:=Tryz.isAgg252
 z51:=Tryz.sizeOf252
 v51:=Tryz.zeroValue252
 t53:=Tryz.underlying254
 a53:=Tryz.isAgg254
 z53:=Tryz.sizeOf254
 v53:=Tryz.zeroValue254
 t171:=Tryz.underlying291
 a171:=Tryz.isAgg291
 z171:=Tryz.sizeOf291
 v171:=Tryz.zeroValue291
 t173:=Tryz.underlying293
 a173:=Tryz.isAgg293
 z173:=Tryz.sizeOf293
 v173:=Tryz.zeroValue293
 t212:=Tryz.underlying306
 a212:=Tryz.isAgg306
 z212:=Tryz.sizeOf306
 v212:=Tryz.zeroValue306
 t213:=Tryz.underlying307
 a213:=Tryz.isAgg307
 z213:=Tryz.sizeOf307
 t232:=Tryz.underlying315
 a232:=Tryz.isAgg315
 z232:=Tryz.sizeOf315
 v232:=Tryz.zeroValue315
 t233:=Tryz.underlying316
 a233:=Tryz.isAgg316
 z233:=Tryz.sizeOf316
 v233:=Tryz.zeroValue316
 g17:=by kernel_rfl
 g18:=by kernel_rfl
 g19:=by kernel_rfl
 i0:=by kernel_rfl
 i2:=by kernel_rfl
 i3:=by kernel_rfl
 i4:=by kernel_rfl
 i5:=by kernel_rfl
 i9:=by kernel_rfl
 i20:=by kernel_rfl
 i37:=by kernel_rfl
 i46:=by kernel_rfl
 i51:=by kernel_rfl
 i53:=by kernel_rfl
 i171:=by kernel_rfl
 i173:=by kernel_rfl
 i212:=by kernel_rfl
 i232:=by kernel_rfl
 i233:=by kernel_rfl
 m17:=by kernel_rfl
 m18:=by kernel_rfl
 m19:=by kernel_rfl}
open Go.RowKit Go.Sort Go.Lib in
theorem Tryz.strconv_AppendInt_10 (B n:Nat) (i:Int) (h0: -9223372036854775808≤i) (h1:i≤9223372036854775807) (sv:Value) (xs:List Value) (w:World) (hown:w.ownsRow B 5 1 sv n xs) (hBw:B≤w.heap.size) (hlim:n+21≤140737488355328) (htab:Lib.TabBelow Tryz.prog B w "internal/strconv.uint64pow10" .u64 Lib.pow10Tab):
  Calls Tryz.prog 156 #[sv,.int .i64 i,.int .i64 10] w fun e w'=> ∃v',e=.returned v'∧w'.ownsRow B 5 1 v' (n+(Lib.itoa i).length) (xs++Lib.byteCells (Lib.itoa i))∧Below B w w'∧Lib.OthersKept 5 none w w':=Any.strconv_AppendInt_10 Tryz.laysM176 B n i h0 h1 sv xs w hown hBw hlim htab
def Tryz.laysSlM5_f111_ren:Go.Shelf.Ren:=⟨fun | 5=>122 | 8=>159 | 7=>158 | 19=>192 | 20=>193 | 10=>183 | 11=>184 | 12=>185 | 13=>186 | 14=>187 | 15=>188 | 16=>189 | 17=>190 | 18=>191 | 30=>218 | 31=>219 | 32=>220 | 33=>221 | 34=>222 | 35=>74 | 40=>239 | n=>n,fun | 23=>46 | 25=>3 | 3=>3 | 32=>129 | 22=>46 | 0=>0 | 44=>252 | 46=>254 | 4=>4 | 36=>246 | 35=>245 | 41=>183 | 5=>5 | 9=>9 | 53=>273 | 57=>277 | 63=>295 | 64=>190 | n=>n,fun | n=>n⟩
theorem Tryz.laysSlM5_f111:Go.Proofs.SlLaysM.n5 Tryz.prog Tryz.laysSlM5_f111_ren:= {
 mixed:=by kernel_rfl
 f5:=⟨Tryz.f122.name,by decide,Tryz.func122.trans (congrArg some (by kernel_rfl))⟩
 f7:=⟨Tryz.f158.name,by decide,Tryz.func158.trans (congrArg some (by kernel_rfl))⟩
 f8:=Tryz.func159.trans (congrArg some (by kernel_rfl))
 f10:=⟨Tryz.f183.name,by decide,Tryz.func183.trans (congrArg some (by kernel_rfl))⟩
 f11:=⟨Tryz.f184.name,by decide,Tryz.func184.trans (congrArg some (by kernel_rfl))⟩
 f12:=⟨Tryz.f185.name,by decide,Tryz.func185.trans (congrArg some (by kernel_rfl))⟩
 f13:=⟨Tryz.f186.name,by decide,Tryz.func186.trans (congrArg some (by kernel_rfl))⟩
 f14:=⟨Tryz.f187.name,by decide,Tryz.func187.trans (congrArg some (by kernel_rfl))⟩
 f15:=⟨Tryz.f188.name,by decide,Tryz.func188.trans (congrArg some (by kernel_rfl))⟩
 f16:=⟨Tryz.f189.name,by decide,Tryz.func189.trans (congrArg some (by kernel_rfl))⟩
 f17:=⟨Tryz.f190.name,by decide,Tryz.func190.trans (congrArg some (by kernel_rfl))⟩
 f18:=⟨Tryz.f191.name,by decide,Tryz.func191.trans (congrArg some (by kernel_rfl))⟩
 f19:=Tryz.func192.trans (congrArg some (by kernel_rfl))
 f20:=Tryz.func193.trans (congrArg some (by kernel_rfl))
 f30:=⟨Tryz.f218.name,by decide,Tryz.func218.trans (congrArg some (by kernel_rfl))⟩
 f31:=Tryz.func219.trans (congrArg some (by kernel_rfl))
 f32:=Tryz.func220.trans (congrArg some (by kernel_rfl))
 f33:=⟨Tryz.f221.name,by decide,Tryz.func221.trans (congrArg some (by kernel_rfl))⟩
 f34:=⟨Tryz.f222.name,by decide,Tryz.func222.trans (congrArg some (by kernel_rfl))⟩
 f35:=⟨Tryz.f74.name,by decide,Tryz.func74.trans (congrArg some (by kernel_rfl))⟩
 f40:=⟨Tryz.f239.name,by decide,Tryz.func239.trans (congrArg some (by kernel_rfl))⟩
 t0:=Tryz.underlying0
 a0:=Tryz.isAgg0
 z0:=Tryz.sizeOf0
 v0:=Tryz.zeroValue0
 t3:=Tryz.underlying3
 a3:=Tryz.isAgg3
 z3:=Tryz.sizeOf3
 v3:=Tryz.zeroValue3
 t4:=Tryz.underlying4
 a4:=Tryz.isAgg4
 z4:=Tryz.sizeOf4
 v4:=Tryz.zeroValue4
 t5:=Tryz.underlying5
 a5:=Tryz.isAgg5
 z5:=Tryz.sizeOf5
 v5:=Tryz.zeroValue5
 t9:=Tryz.underlying9
 a9:=Tryz.isAgg9
 z9:=Tryz.sizeOf9
 v9:=Tryz.zeroValue9
 t22:=Tryz.underlying46
 a22:=Tryz.isAgg46
 z22:=Tryz.sizeOf46
 v22:=Tryz.zeroValue46
 t23:=Tryz.underlying46
 a23:=Tryz.isAgg46
 z23:=Tryz.sizeOf46
 v23:=Tryz.zeroValue46
 t25:=Tryz.underlying3
 a25:=Tryz.isAgg3
 z25:=Tryz.sizeOf3
 v25:=Tryz.zeroValue3
 t32:=Tryz.underlying129
 a32:=Tryz.isAgg129
 z32:=Tryz.sizeOf129
 v32:=Tryz.zeroValue129
 t35:=Tryz.underlying245
 a35:=Tryz.isAgg245
 z35:=Tryz.sizeOf245
 v35:=Tryz.zeroValue245
 t36:=Tryz.underlying246
 a36:=Tryz.isAgg246
 z36:=Tryz.sizeOf246
 v36:=Tryz.zeroValue246
 t41:=Tryz.underlying183
 a41:=Tryz.isAgg183
 z41:=Tryz.sizeOf183
 v41:=Tryz.zeroValue183
 t44:=Tryz.underlying252
 a44:=Tryz.isAgg252
 z44:=Tryz.sizeOf252
 v44:=Tryz.zeroValue252
 t46:=Tryz.underlying254
 a46:=Tryz.isAgg254
 z46:=Tryz.sizeOf254
 v46:=Tryz.zeroValue254
 t53:=Tryz.underlying273
 a53:=Tryz.isAgg273
 z53:=Tryz.sizeOf273
 v53:=Tryz.zeroValue273
 t57:=Tryz.underlying277
 a57:=Tryz.isAgg277
 z57:=Tryz.sizeOf277
 v57:=Tryz.zeroValue277
 t63:=Tryz.underlying295
 a63:=Tryz.isAgg295
 z63:=Tryz.sizeOf295
 v63:=Tryz.zeroValue295
 t64:=Tryz.underlying190
 a64:=Tryz.isAgg190
 z64:=Tryz.sizeOf190
 v64:=Tryz.zeroValue190}
open Go.Sort Go.RowKit in
open Go.RowKit Go.Sort in
def Tryz.keysA_ren:Go.Shelf.Ren:=⟨fun | 7=>79 | 10=>123 | n=>n,fun | 23=>89 | 26=>3 | 3=>141 | 28=>157 | 0=>0 | 27=>156 | 33=>150 | 4=>4 | n=>n,fun | n=>n⟩
theorem Tryz.keysA:Go.Proofs.SlLaysZI.n7 Tryz.prog Tryz.keysA_ren:= {
 mixed:=by kernel_rfl
 f7:=⟨Tryz.f79.name,by decide,Tryz.func79.trans (congrArg some (by kernel_rfl))⟩
 f10:=⟨Tryz.f123.name,by decide,Tryz.func123.trans (congrArg some (by kernel_rfl))⟩
 t0:=Tryz.underlying0
 a0:=Tryz.isAgg0
 z0:=Tryz.sizeOf0
 v0:=Tryz.zeroValue0
 t4:=Tryz.underlying4
 a4:=Tryz.isAgg4
 z4:=Tryz.sizeOf4
 v4:=Tryz.zeroValue4
 t23:=Tryz.underlying89
 a23:=Tryz.isAgg89
 z23:=Tryz.sizeOf89
 v23:=Tryz.zeroValue89
 t26:=Tryz.underlying3
 a26:=Tryz.isAgg3
 z26:=Tryz.sizeOf3
 v26:=Tryz.zeroValue3
 t27:=Tryz.underlying156
 a27:=Tryz.isAgg156
 z27:=Tryz.sizeOf156
 v27:=Tryz.zeroValue156
 t28:=Tryz.underlying157
 a28:=Tryz.isAgg157
 z28:=Tryz.sizeOf157
 v28:=Tryz.zeroValue157
 t33:=Tryz.underlying150
 a33:=Tryz.isAgg150
 z33:=Tryz.sizeOf150
 v33:=Tryz.zeroValue150}
def Tryz.sortedA_ren:Go.Shelf.Ren:=⟨fun | 6=>78 | 8=>121 | 9=>122 | 11=>157 | 13=>159 | 12=>158 | 23=>192 | 24=>193 | 14=>183 | 15=>184 | 16=>185 | 17=>186 | 18=>187 | 19=>188 | 20=>189 | 21=>190 | 22=>191 | 25=>218 | 26=>219 | 27=>220 | 28=>221 | 29=>222 | 30=>74 | 31=>239 | n=>n,fun | 26=>3 | 28=>157 | 24=>46 | 0=>0 | 3=>3 | 37=>129 | 48=>252 | 50=>254 | 4=>4 | 40=>246 | 39=>245 | 45=>183 | 5=>5 | 9=>9 | 51=>273 | 55=>277 | 57=>295 | 58=>190 | 33=>150 | n=>n,fun | n=>n⟩
theorem Tryz.sortedA:Go.Proofs.SlLaysZI.n6 Tryz.prog Tryz.sortedA_ren:= {
 mixed:=by kernel_rfl
 f6:=⟨Tryz.f78.name,by decide,Tryz.func78.trans (congrArg some (by kernel_rfl))⟩
 f8:=⟨Tryz.f121.name,by decide,Tryz.func121.trans (congrArg some (by kernel_rfl))⟩
 f11:=⟨Tryz.f157.name,by decide,Tryz.func157.trans (congrArg some (by kernel_rfl))⟩
 t0:=Tryz.underlying0
 a0:=Tryz.isAgg0
 z0:=Tryz.sizeOf0
 v0:=Tryz.zeroValue0
 t24:=Tryz.underlying46
 a24:=Tryz.isAgg46
 z24:=Tryz.sizeOf46
 v24:=Tryz.zeroValue46
 t26:=Tryz.underlying3
 a26:=Tryz.isAgg3
 z26:=Tryz.sizeOf3
 v26:=Tryz.zeroValue3
 t28:=Tryz.underlying157
 a28:=Tryz.isAgg157
 z28:=Tryz.sizeOf157
 v28:=Tryz.zeroValue157
 i26:=by kernel_rfl}
end Go.Proofs
namespace Go.Proofs.YtfhpgmlfgjfknaaGreatDoor
open Go.RowKit Go.Vf Go.Maps Go.Sort Go.Shelf
theorem a7k (m:Nat):AnyZI.SortsIn Tryz.prog Tryz.sortedA_ren Fence.wide m:=
  ⟨fun blk off cap ss W hH hblk hsz=>callsIn_wide.2 (AnyM.slices_Sort_int Tryz.laysSlM5_f111 blk off cap ss W hH hblk hsz),
   fun p cap W=>callsIn_wide.2 (AnyM.slices_Sort_int_none Tryz.laysSlM5_f111 p cap W)⟩
theorem az9 (mb:Option Nat)(W:World):Calls Tryz.prog 79 #[.map mb] W fun e w'=>e=.returned (.func (.func 123) #[] #[.pointer (some ⟨W.heap.size,0,none⟩)])∧w'=W.alloc (.cells #[.map mb] 89):=
  (callsIn_wide (n:=5)).1 (AnyZI.keys_in Tryz.keysA Fence.wide 5 trivial rfl mb W)
set_option maxHeartbeats 1000000 in
theorem aso {H:Type}(b nn:Nat)(D0:DataW H)(R:Value→Option (DataW H×List MemPlace))(w:World)(hown:w.ownsMap Tryz.prog 3 R b nn D0)(hmax:Maps.size D0≤maxLen)(hbytes:Maps.size D0*8≤140737488355328):
    Calls Tryz.prog 78 #[.func (.func 123) #[] #[.pointer (some ⟨w.heap.size,0,none⟩)]] (w.alloc (.cells #[.map (some b)] 89)) fun e w'=> ∃(v:Value) (ss:List Int),e=.returned v∧ss.Perm (intKeys D0)∧
      w'.ownsRow (w.heap.size+1) 3 1 v ss.length ((ss.mergeSort (fun x y=>decide (x≤y))).map encZ)∧Below (w.heap.size+1) (w.alloc (.cells #[.map (some b)] 89)) w':=by
  refine(callsIn_wide (n:=5)).1 ?_
  have hbl:=hown.lt
  have hseq:SeqGives Fence.wide 2 Tryz.prog 123 #[.pointer (some ⟨w.heap.size,0,none⟩)] encZ (fun ss=>ss.Perm (intKeys D0)) (Maps.size D0) (w.alloc (.cells #[.map (some b)] 89)):=
    AnyZI.keys_gives (ρ:=Tryz.keysA_ren) {Tryz.keysA with} Fence.wide _ trivial rfl (by omega) w.heap.size b nn D0 _ (by simp) (by simp) (by
      obtain⟨es,clock,hb,Ft,hs,hD⟩:=hown
      exact⟨es,clock,(Below.heap_alloc _ _ b hbl).trans hb,Ft,hs,hD⟩)
  have cS:=AnyZI.sorted_in Tryz.sortedA Fence.wide 5 trivial trivial trivial trivial rfl (by omega) (a7k _) (enters_of Tryz.func122 (by kernel_rfl) rfl) 123 #[.pointer (some ⟨w.heap.size,0,none⟩)] trivial (enters_of Tryz.func123 (by kernel_rfl) rfl) _ _ hmax hbytes _ hseq
  change CallsIn _ _ Tryz.prog 78 _ _ _ at cS
  refine cS.mono ?_
  rintro e w' ⟨v,ss,rfl,hS,hrow,hnil,hb⟩
  rw[show (w.alloc (.cells #[.map (some b)] 89)).heap.size=w.heap.size+1 by simp] at hrow hb
  exact⟨v,ss,rfl,hS,hrow,hb⟩
end Go.Proofs.YtfhpgmlfgjfknaaGreatDoor
namespace Go.Vf
def adc (n:Int):Bool:=decide (0≤n)&&decide (n≤1114111)&&(decide (n<55296)||decide (57343<n))
structure El where
 va:Bool
 pr:Int
 se:Int
 te:Int
deriving DecidableEq
abbrev Ent:=List Int×List El
def wtB (n:Int):Bool:=decide (0≤n)&&decide (n≤65535)
def aah (e:El):Bool:=
 wtB e.pr&&wtB e.se&&wtB e.te&&decide (e.pr≤64319)&& !(decide (e.pr≠0)&&decide (e.se=0))&& !(decide (e.se≠0)&&decide (e.te=0))&&(decide (e.pr≠0)|| !e.va)
def at5 (s:List UInt8):Option Nat:=acw ac8 16 s 0
def ptR (s:List UInt8):Option Int:=
 if s.length=4∨(4<s.length∧s.length≤6∧s.head?≠some 48) then (at5 s).map (fun n=>(n:Int)) else none
def asc:List (List UInt8)→Option (List Int)
 | []=>some []
 | s::r=>match ptR s with
  | none=>none
  | some p=>match asc r with
   | none=>none
   | some l=>some (p::l)
def adp (l:List Int):Bool:=decide (1≤l.length)&&decide (l.length≤8)&&l.all adc
def aij (s:List UInt8):Option (List Int):=match asc (aa3 32 s) with
 | none=>none
 | some l=>if adp l then some l else none
def af6 (s:List UInt8):Option Int:=match at5 s with
 | none=>none
 | some n=>if s.length=4 then some (n:Int) else none
def ae7 (va:Bool):List (List UInt8)→Option El
 | [a,b,c]=>match af6 a with
  | none=>none
  | some x=>match af6 b with
   | none=>none
   | some y=>match af6 c with
    | none=>none
    | some z=>some ⟨va,x,y,z⟩
 | _=>none
def elR (s:List UInt8):Option El:=
 if s[0]? =some 91∧(s[1]? =some 46∨s[1]? =some 42)∧s[16]? =some 93 then ae7 (s[1]? ==some 42) (aa3 46 ((s.drop 2).take 14)) else none
def an9:Nat→List UInt8→Option (List El)
 | 0,_=>some []
 | n+1,s=>match elR (s.take 17) with
  | none=>none
  | some e=>match an9 n (s.drop 17) with
   | none=>none
   | some l=>some (e::l)
def aik (s:List UInt8):Option (List El):=if s=[]∨272<s.length∨s.length % 17≠0 then none else an9 (s.length/17) s
def aih (c:UInt8):List UInt8→List UInt8×List UInt8
 | []=>([],[])
 | b::r=>if b=c then ([],r) else (b::(aih c r).1,(aih c r).2)
def aee (s:List UInt8):Option Ent:=match aij (aih 59 s).1 with
 | none=>none
 | some p=>match aik (aih 59 s).2 with
  | none=>none
  | some l=>some (p,l)
def akf (E:List Ent)(p:List Int):Bool:=E.any (fun e=>e.1==p)
def aey:List (List UInt8)→Int→List Ent→Except (Int×Int) (List Ent)
 | [],_,acc=>.ok acc
 | s::r,n,acc=>
  if aav s then aey r (n+1) acc else
  match aee s with
  | none=>.error (60,n+1)
  | some x=>
   if x.2.all aah then
    if akf acc x.1 then .error (61,n+1)
    else if 4096≤acc.length then .error (2,n+1)
    else aey r (n+1) (acc++[x])
   else .error (62,n+1)
def ab9 (s:List UInt8):Except (Int×Int) (List Ent):=if 65536<s.length then .error (2,0) else aey (aa3 10 s) 0 []
def aep (E:List Ent)(p:List Int):Option (List El):=(E.find? (fun e=>e.1==p)).map Prod.snd
def ab0:List Ent→Int→Nat
 | [],_=>0
 | e::r,x=>if e.1.head? =some x then max e.1.length (ab0 r x) else ab0 r x
structure EntOk (x:Ent):Prop where
 row:adp x.1=true
 n0:1≤x.2.length
 n1:x.2.length≤16
 ok:x.2.all aah=true
theorem asu {s:List UInt8}{p:List Int}(h:aij s=some p):adp p=true:=by
 unfold aij at h
 split at h
 ·cases h
 ·split at h
  ·cases h;assumption
  ·cases h
theorem a4l: ∀(n:Nat) (s:List UInt8) (l:List El),an9 n s=some l→l.length=n:=by
 intro n
 induction n with
 | zero=>intro s l h;simp[an9] at h;subst h;rfl
 | succ n ih=>
  intro s l h
  unfold an9 at h
  split at h
  ·cases h
  ·split at h
   ·cases h
   ·rename_i q e
    cases h
    simp[ih _ _ e]
theorem elsR_len {s:List UInt8}{l:List El}(h:aik s=some l):1≤l.length∧l.length≤16∧l.length*17=s.length:=by
 unfold aik at h
 split at h
 ·cases h
 ·rename_i hc
  have hl:=a4l _ _ _ h
  have h0:s.length≠0:=fun e=>hc (.inl (List.eq_nil_of_length_eq_zero e))
  omega
theorem aub {s:List UInt8}{x:Ent}(h:aee s=some x):adp x.1=true∧1≤x.2.length∧x.2.length≤16:=by
 unfold aee at h
 split at h
 ·cases h
 ·rename_i p e1
  split at h
  ·cases h
  ·rename_i l e2
   cases h
   exact⟨asu e1,(elsR_len e2).1,(elsR_len e2).2.1⟩
theorem anx {E:List Ent}{p:List Int}(h:akf E p=false):p∉E.map Prod.fst:=by
 intro hp
 obtain⟨e,he,rfl⟩:=List.mem_map.1 hp
 unfold akf at h
 rw[List.any_eq_false] at h
 exact h e he (by simp)
theorem a0r (E:List Ent)(p:List Int):akf E p=(aep E p).isSome:=by
 unfold akf aep
 rw[Option.isSome_map,Bool.eq_iff_iff,List.any_eq_true,List.find?_isSome]
theorem a52: ∀(ls:List (List UInt8)) (n:Int) (acc E:List Ent),aey ls n acc=.ok E→(∀x∈acc,EntOk x)→(acc.map Prod.fst).Nodup→acc.length≤4096→(∀x∈E,EntOk x)∧(E.map Prod.fst).Nodup∧E.length≤4096:=by
 intro ls
 induction ls with
 | nil=>intro n acc E h h1 h2 h3;simp[aey] at h;subst h;exact⟨h1,h2,h3⟩
 | cons s r ih=>
  intro n acc E h h1 h2 h3
  unfold aey at h
  split at h
  ·exact ih _ _ _ h h1 h2 h3
  ·split at h
   ·cases h
   ·rename_i x hx
    split at h
    ·split at h
     ·cases h
     ·split at h
      ·cases h
      ·rename_i hr ht h4
       have hk:=aub hx
       refine ih _ _ _ h ?_ ?_ (by simp;omega)
       ·intro y hy
        rcases List.mem_append.1 hy with hy | hy
        ·exact h1 y hy
        ·rw[List.mem_singleton] at hy;subst hy;exact⟨hk.1,hk.2.1,hk.2.2,hr⟩
       ·rw[List.map_append,List.nodup_append]
        refine⟨h2,by simp,?_⟩
        intro a ha b hb e
        simp at hb
        subst hb e
        exact anx (by simpa using ht) ha
    ·cases h
theorem ai4 {s:List UInt8}{E:List Ent}(h:ab9 s=.ok E):(∀x∈E,EntOk x)∧(E.map Prod.fst).Nodup∧E.length≤4096:=by
 unfold ab9 at h
 split at h
 ·cases h
 ·exact a52 _ _ _ _ h (by simp) (by simp) (by simp)
end Go.Vf
namespace Go.Vf
def adn (d:Nat):UInt8:=if d<10 then UInt8.ofNat (48+d) else UInt8.ofNat (87+d)
def aca (u:Nat):List UInt8:=if u<16 then [adn u] else aca (u/16)++[adn (u % 16)]
termination_by u
decreasing_by omega
theorem ahk {v:Nat}(h:16≤v):aca v=aca (v/16)++[adn (v % 16)]:=by
 rw[aca,if_neg (by omega)]
theorem afo {v:Nat}(h: ¬16≤v):aca v=[adn v]:=by
 rw[aca,if_pos (by omega)]
def aa1 (u:Nat):List UInt8:=Lib.toUpperA (aca u)
def aae (u:Nat):List UInt8:=List.replicate (4-(aa1 u).length) 48++aa1 u
theorem af4: ∀(u k:Nat),u<16^k→0<k→(aca u).length≤k:=by
 intro u
 induction u using Nat.strongRecOn with
 | ind u ih=>
  intro k hk h0
  by_cases h:16≤u
  ·rw[ahk h]
   obtain⟨k',rfl⟩: ∃k',k=k'+1:=⟨k-1,by omega⟩
   rw[Nat.pow_succ] at hk
   have hk':0<k':=by
    by_cases e:k'=0
    ·subst e;omega
    ·omega
   have:=ih (u/16) (by omega) k' (by omega) hk'
   simp;omega
  ·rw[afo h];simp;omega
theorem ake: ∀(u:Nat),∀b∈aca u,b.toNat<128:=by
 intro u
 induction u using Nat.strongRecOn with
 | ind u ih=>
  have hl: ∀d,d<16→(adn d).toNat<128:=by decide
  by_cases h:16≤u
  ·intro b hb
   rw[ahk h] at hb
   rcases List.mem_append.1 hb with hb | hb
   ·exact ih (u/16) (by omega) b hb
   ·simp at hb;subst hb;exact hl _ (Nat.mod_lt _ (by omega))
  ·intro b hb
   rw[afo h] at hb
   simp at hb;subst hb;exact hl _ (by omega)
theorem afg (l:List UInt8):(Lib.toUpperA l).length=l.length:=by simp[Lib.toUpperA]
def aba:List Nat→List UInt8
 | []=>[]
 | [u]=>aae u
 | u::r=>aae u++32::aba r
theorem ant (us:List Nat): ∀(k:Nat) (hk:k<us.length),aba (us.take (k+1))=aba (us.take k)++(if 0<k then [32] else [])++aae us[k]:=by
 have key: ∀(l:List Nat) (x:Nat),l≠ []→aba (l++[x])=aba l++[32]++aae x:=by
  intro l
  induction l with
  | nil=>intro x h;exact absurd rfl h
  | cons a r ih=>
   intro x _
   cases r with
   | nil=>simp[aba]
   | cons b t=>
    have:=ih x (by simp)
    simp only[List.cons_append] at this⊢
    rw[aba,this]
    ·simp[aba]
    ·simp
 intro k hk
 rw[List.take_succ_eq_append_getElem hk]
 by_cases h0:k=0
 ·subst h0;simp[aba]
 ·rw[key _ _ (fun e=>by
   have h1:(us.take k).length=k:=by rw[List.length_take];omega
   rw[e] at h1
   exact h0 h1.symm),if_pos (by omega)]
theorem anj (u:Nat)(hu:u≤1114111):(aae u).length≤6∧4≤(aae u).length:=by
 have:=af4 u 6 (by omega) (by omega)
 unfold aae aa1
 rw[List.length_append,List.length_replicate,afg]
 omega
theorem a0d: ∀(us:List Nat),(∀u∈us,u≤1114111)→(aba us).length≤7*us.length:=by
 intro us
 induction us with
 | nil=>simp[aba]
 | cons a r ih=>
  intro h
  have h1:=anj a (h a (by simp))
  have h2:=ih (fun u hu=>h u (by simp[hu]))
  cases r with
  | nil=>simp[aba];omega
  | cons b t=>
   rw[aba]
   ·simp at h2⊢;omega
   ·simp
def acz (d:Nat):UInt8:=Lib.upperB (adn d)
theorem ayk: ∀d,d<16→ac8 (acz d)=some d:=by decide
theorem am9: ∀d,d<16→acz d=48→d=0:=by decide
theorem ayj: ∀d,d<16→acz d≠10∧acz d≠32∧acz d≠59∧acz d≠35:=by decide
theorem a3z:((List.range 256).all fun n=>match ac8 (UInt8.ofNat n) with
  | some d=>decide (d<16)&&(UInt8.ofNat n==acz d)
  | none=>true)=true:=by kernel_rfl
theorem axm {c:UInt8}{d:Nat}(h:ac8 c=some d):d<16∧c=acz d:=by
 have:=List.all_eq_true.1 a3z c.toNat (List.mem_range.2 c.toNat_lt)
 rw[show UInt8.ofNat c.toNat=c by simp,h] at this
 simpa using this
def abb:Nat→Nat→List UInt8
 | 0,_=>[]
 | k+1,n=>abb k (n/16)++[acz (n % 16)]
theorem acn: ∀(k n:Nat),(abb k n).length=k:=by
 intro k
 induction k with
 | zero=>intro n;rfl
 | succ k ih=>intro n;simp[abb,ih]
theorem ann: ∀(k n:Nat),∀b∈abb k n,∃d,d<16∧b=acz d:=by
 intro k
 induction k with
 | zero=>intro n b hb;simp[abb] at hb
 | succ k ih=>
  intro n b hb
  rw[abb] at hb
  rcases List.mem_append.1 hb with hb | hb
  ·exact ih _ b hb
  ·simp at hb;exact⟨_,Nat.mod_lt _ (by omega),hb⟩
theorem aqv (v:UInt8→Option Nat)(b:Nat)(c:UInt8): ∀(s:List UInt8) (m:Nat),acw v b (s++[c]) m=match acw v b s m with
  | none=>none
  | some n=>match v c with
   | none=>none
   | some d=>some (n*b+d):=by
 intro s
 induction s with
 | nil=>
  intro m
  simp only[List.nil_append,acw]
  cases v c<;>rfl
 | cons a r ih=>
  intro m
  simp only[List.cons_append,acw]
  cases v a with
  | none=>rfl
  | some d=>exact ih _
theorem ahj: ∀(k n m:Nat),acw ac8 16 (abb k n) m=some (m*16^k+n % 16^k):=by
 intro k
 induction k with
 | zero=>intro n m;simp[abb,acw,Nat.mod_one]
 | succ k ih=>
  intro n m
  rw[abb,aqv,ih,ayk _ (Nat.mod_lt _ (by omega))]
  show some _=some _
  congr 1
  have e:= @Nat.mod_mul 16 (16^k) n
  rw[Nat.pow_succ,Nat.mul_comm (16^k) 16,e,Nat.add_mul]
  rw[show m*(16*16^k)=m*16^k*16 by rw[Nat.mul_comm 16,Nat.mul_assoc]]
  omega
theorem ao7: ∀(s:List UInt8) (m n:Nat),acw ac8 16 s m=some n→ ∃r,r<16^s.length∧n=m*16^s.length+r∧s=abb s.length r:=by
 intro s
 induction hk:s.length generalizing s with
 | zero=>
  intro m n h
  have:s=[]:=List.length_eq_zero_iff.1 hk
  subst this
  simp[acw] at h
  exact⟨0,by simp,by simp[h],rfl⟩
 | succ k ih=>
  intro m n h
  have hne:s≠ []:=by intro e;subst e;simp at hk
  obtain⟨t,c,rfl⟩: ∃t c,s=t++[c]:=⟨s.dropLast,s.getLast hne,(List.dropLast_concat_getLast hne).symm⟩
  have hkt:t.length=k:=by simpa using hk
  rw[aqv] at h
  cases h1:acw ac8 16 t m with
  | none=>rw[h1] at h;cases h
  | some n'=>
   rw[h1] at h
   cases h2:ac8 c with
   | none=>rw[h2] at h;cases h
   | some d=>
    rw[h2] at h
    obtain⟨hd,hc⟩:=axm h2
    obtain⟨r,hr,hn,ht⟩:=ih t hkt m n' h1
    have hh:n'*16+d=n:=by simpa using h
    refine⟨r*16+d,?_,?_,?_⟩
    ·rw[Nat.pow_succ];omega
    ·rw[←hh,hn,Nat.pow_succ,Nat.add_mul,Nat.mul_assoc];omega
    ·rw[abb,show(r*16+d)/16=r by omega,show(r*16+d) % 16=d by omega,←ht,hc]
theorem ak3 (u:Nat):aa1 u=if 16≤u then aa1 (u/16)++[acz (u % 16)] else [acz u]:=by
 unfold aa1
 split
 ·rename_i h
  rw[ahk h]
  simp[Lib.toUpperA,acz]
 ·rename_i h
  rw[afo h]
  simp[Lib.toUpperA,acz]
theorem acs (u k:Nat)(h:u<16^k)(h0:0<k):(aa1 u).length≤k:=by
 unfold aa1
 rw[afg]
 exact af4 u k h h0
theorem adz: ∀(u k:Nat),(aa1 u).length≤k→u<16^k:=by
 intro u
 induction u using Nat.strongRecOn with
 | ind u ih=>
  intro k hk
  rw[ak3] at hk
  split at hk
  ·rename_i h
   obtain⟨k',rfl⟩: ∃k',k=k'+1:=⟨k-1,by simp at hk;omega⟩
   have:=ih (u/16) (by omega) k' (by simp at hk;omega)
   rw[Nat.pow_succ];omega
  ·simp at hk
   obtain⟨k',rfl⟩: ∃k',k=k'+1:=⟨k-1,by omega⟩
   have:=Nat.pow_pos (n:=k') (show 0<16 by omega)
   rw[Nat.pow_succ];omega
theorem ayi: ∀u:Nat,aa1 u=abb (aa1 u).length u:=by
 intro u
 induction u using Nat.strongRecOn with
 | ind u ih=>
  rw[ak3]
  split
  ·rename_i h
   rw[List.length_append]
   show _=abb ((aa1 (u/16)).length+1) u
   rw[abb,←ih (u/16) (by omega)]
  ·rename_i h
   show _=abb 1 u
   rw[abb,abb,Nat.mod_eq_of_lt (by omega)]
   try rfl
theorem ak4 (u:Nat):0<(aa1 u).length:=by
 rw[ak3];split<;>simp
theorem as9: ∀(k j u:Nat),u<16^k→abb (j+k) u=List.replicate j 48++abb k u:=by
 intro k
 induction k with
 | zero=>
  intro j u h
  have h0:u=0:=by simpa using h
  subst h0
  induction j with
  | zero=>rfl
  | succ j ih=>
   show abb (j+0) 0++[acz 0]=_
   rw[ih,List.replicate_succ']
   show List.replicate j 48++[]++[acz 0]=List.replicate j 48++[48]++[]
   simp
   decide
 | succ k ih=>
  intro j u h
  rw[Nat.pow_succ] at h
  show abb (j+k) (u/16)++[_]=_
  rw[ih j (u/16) (by omega),abb,List.append_assoc]
theorem agh: ∀(k u:Nat),(abb (k+1) u).head? =some (acz (u/16^k % 16)):=by
 intro k
 induction k with
 | zero=>intro u;simp[abb]
 | succ k ih=>
  intro u
  rw[abb,List.head?_append,ih,Nat.div_div_eq_div_mul,Nat.pow_succ,Nat.mul_comm 16]
  try rfl
theorem aay (u:Nat):aae u=abb ((4-(aa1 u).length)+(aa1 u).length) u:=by
 unfold aae
 rw[as9 _ _ _ (adz u _ (Nat.le_refl _)),←ayi]
theorem aa8 {u:Nat}{b:UInt8}(h:b∈aae u):b≠10∧b≠32∧b≠59∧b≠35:=by
 rw[aay] at h
 obtain⟨d,hd,rfl⟩:=ann _ _ b h
 exact ayj d hd
theorem ai1 (u:Nat):aae u≠ []:=by
 intro e
 have h1:=congrArg List.length e
 rw[aay,acn] at h1
 have h2:=ak4 u
 simp only[List.length_nil] at h1
 omega
theorem arr: ∀(us:List Nat),us≠ []→aa3 32 (aba us)=us.map aae:=by
 intro us
 induction us with
 | nil=>intro h;exact absurd rfl h
 | cons a r ih=>
  intro _
  cases r with
  | nil=>rw[aba,ac9 32 _ (fun x hx=>(aa8 hx).2.1)];rfl
  | cons b t=>
   rw[aba,ace 32 _ _ (fun x hx=>(aa8 hx).2.1),ih (by simp)]
   ·rfl
   ·simp
theorem af2: ∀(r:List Nat) (a:Nat),aba (a::r)=aae a++r.flatMap fun x=>32::aae x:=by
 intro r
 induction r with
 | nil=>intro a;simp[aba]
 | cons b t ih=>intro a;rw[aba,ih b]<;>simp
theorem a3v: ∀(us:List Nat),us≠ []→aba us≠ []:=by
 intro us h e
 cases us with
 | nil=>exact h rfl
 | cons a r=>
  rw[af2] at e
  exact ai1 a (List.append_eq_nil_iff.1 e).1
theorem als: ∀(us:List Nat),∀b∈aba us,b≠10∧b≠59:=by
 intro us
 induction us with
 | nil=>intro b hb;simp[aba] at hb
 | cons a r ih=>
  intro b hb
  cases r with
  | nil=>rw[aba] at hb;exact⟨(aa8 hb).1,(aa8 hb).2.2.1⟩
  | cons c t=>
   rw[aba] at hb
   ·rcases List.mem_append.1 hb with hb | hb
    ·exact⟨(aa8 hb).1,(aa8 hb).2.2.1⟩
    ·rcases List.mem_cons.1 hb with rfl | hb
     ·decide
     ·exact ih b hb
   ·simp
theorem ajc (c:UInt8): ∀(s:List UInt8),s=(match aa3 c s with
  | []=>[]
  | a::r=>a++r.flatMap fun x=>c::x):=by
 intro s
 induction s with
 | nil=>simp[aa3]
 | cons b r ih=>
  cases hc:aa3 c r with
  | nil=>exact absurd hc (aig c r)
  | cons a t=>
   rw[hc] at ih
   simp only at ih
   by_cases hb:b=c
   ·have e:aa3 c (b::r)=[]::a::t:=by rw[aa3,if_pos hb,hc]
    rw[e]
    simp only[List.nil_append,List.flatMap_cons,List.cons_append]
    rw[←ih,hb]
   ·have e:aa3 c (b::r)=(b::a)::t:=by rw[aa3,if_neg hb,hc]
    rw[e]
    simp only[List.cons_append]
    rw[←ih]
end Go.Vf
