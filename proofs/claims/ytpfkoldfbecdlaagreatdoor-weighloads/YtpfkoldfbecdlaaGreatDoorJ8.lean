/- Contracts and lemmas (nothing is claimed here). -/
import Derived.Shelf.SlIterI.Nil
import Derived.Ground.GgzProg
import Derived.Shelf.Strings.OnBuilder
import Derived.Shelf.Strconv.AppendUint10
import Derived.Shelf.Strconv.AppendInt10
import Derived.Shelf.Strconv.AppendIntPublic10
import Derived.Ground.SlgmProg
import Derived.Shelf.SortM.Plain
import Derived.Shelf.SortM.SortNone
import Derived.Test.YtpfkoldfbecdlaaGreatDoorJ7
import Derived.Lib.Case
namespace Go.Proofs
open Go.Shelf
open Go.RowKit in
def Tryz.lays158_ren:Go.Shelf.Ren:=⟨fun | 158=>183 | 165=>222 | 166=>223 | 167=>224 | 169=>225 | 230=>226 | 203=>227 | 240=>244 | 241=>245 | 197=>177 | 118=>246 | 168=>247 | 270=>248 | 262=>249 | 276=>257 | 277=>258 | 260=>216 | 242=>259 | 313=>260 | 278=>265 | 274=>266 | 275=>267 | n=>n,fun | 9=>9 | 4=>4 | 3=>3 | 5=>5 | 72=>280 | 0=>0 | 76=>283 | 75=>282 | 107=>288 | 70=>278 | 20=>20 | 37=>78 | 127=>304 | 21=>21 | 105=>248 | 164=>315 | 162=>321 | 203=>319 | 119=>298 | 46=>163 | 139=>301 | 138=>300 | 51=>261 | 160=>325 | 208=>331 | 206=>329 | 80=>286 | n=>n,fun | 13=>5 | 3=>3 | 4=>4 | n=>n⟩
theorem Tryz.lays158:Go.Proofs.Lays.n158 Tryz.prog Tryz.lays158_ren:= {
 mixed:=by kernel_rfl
 f118:=Tryz.func246.trans (congrArg some (by kernel_rfl))
 f158:=Tryz.func183.trans (congrArg some (by kernel_rfl))
 f165:=Tryz.func222.trans (congrArg some (by kernel_rfl))
 f166:=Tryz.func223.trans (congrArg some (by kernel_rfl))
 f167:=Tryz.func224.trans (congrArg some (by kernel_rfl))
 f168:=Tryz.func247.trans (congrArg some (by kernel_rfl))
 f169:=Tryz.func225.trans (congrArg some (by kernel_rfl))
 f197:=Tryz.func177.trans (congrArg some (by kernel_rfl))
 f203:=Tryz.func227.trans (congrArg some (by kernel_rfl))
 f230:=Tryz.func226.trans (congrArg some (by kernel_rfl))
 f240:=Tryz.func244.trans (congrArg some (by kernel_rfl))
 f241:=Tryz.func245.trans (congrArg some (by kernel_rfl))
 f242:=Tryz.func259.trans (congrArg some (by kernel_rfl))
 f260:=Tryz.func216.trans (congrArg some (by kernel_rfl))
 f262:=Tryz.func249.trans (congrArg some (by kernel_rfl))
 f270:=Tryz.func248.trans (congrArg some (by kernel_rfl))
 f274:=Tryz.func266.trans (congrArg some (by kernel_rfl))
 f275:=Tryz.func267.trans (congrArg some (by kernel_rfl))
 f276:=Tryz.func257.trans (congrArg some (by kernel_rfl))
 f277:=Tryz.func258.trans (congrArg some (by kernel_rfl))
 f278:=Tryz.func265.trans (congrArg some (by kernel_rfl))
 f313:=Tryz.func260.trans (congrArg some (by kernel_rfl))
 t0:=Tryz.underlying0
 a0:=Tryz.isAgg0
 z0:=Tryz.sizeOf0
 v0:=Tryz.zeroValue0
 t3:=Tryz.underlying3
 a3:=Tryz.isAgg3
 z3:=Tryz.sizeOf3
 v3:=Tryz.zeroValue3
 t4:=Tryz.underlying4
 a4:=Tryz.isAgg4
 z4:=Tryz.sizeOf4
 v4:=Tryz.zeroValue4
 t5:=Tryz.underlying5
 a5:=Tryz.isAgg5
 z5:=Tryz.sizeOf5
 v5:=Tryz.zeroValue5
 t9:=Tryz.underlying9
 a9:=Tryz.isAgg9
 z9:=Tryz.sizeOf9
 v9:=Tryz.zeroValue9
 t20:=Tryz.underlying20
 a20:=Tryz.isAgg20
 z20:=Tryz.sizeOf20
 v20:=Tryz.zeroValue20
 t21:=Tryz.underlying21
 a21:=Tryz.isAgg21
 z21:=Tryz.sizeOf21
 v21:=Tryz.zeroValue21
 t37:=Tryz.underlying78
 a37:=Tryz.isAgg78
 z37:=Tryz.sizeOf78
 v37:=Tryz.zeroValue78
 t46:=Tryz.underlying163
 a46:=Tryz.isAgg163
 z46:=Tryz.sizeOf163
 v46:=Tryz.zeroValue163
 t51:=Tryz.underlying261
 a51:=Tryz.isAgg261
 z51:=Tryz.sizeOf261
 v51:=Tryz.zeroValue261
 t70:=Tryz.underlying278
 a70:=Tryz.isAgg278
 z70:=Tryz.sizeOf278
 v70:=Tryz.zeroValue278
 t72:=Tryz.underlying280
 a72:=Tryz.isAgg280
 z72:=Tryz.sizeOf280
 v72:=Tryz.zeroValue280
 t75:=Tryz.underlying282
 a75:=Tryz.isAgg282
 z75:=Tryz.sizeOf282
 v75:=Tryz.zeroValue282
 t76:=Tryz.underlying283
 a76:=Tryz.isAgg283
 z76:=Tryz.sizeOf283
 v76:=Tryz.zeroValue283
 t105:=Tryz.underlying248
 a105:=Tryz.isAgg248
 z105:=Tryz.sizeOf248
 v105:=Tryz.zeroValue248
 t107:=Tryz.underlying288
 a107:=Tryz.isAgg288
 z107:=Tryz.sizeOf288
 v107:=Tryz.zeroValue288
 t119:=Tryz.underlying298
 a119:=Tryz.isAgg298
 z119:=Tryz.sizeOf298
 t127:=Tryz.underlying304
 a127:=Tryz.isAgg304
 z127:=Tryz.sizeOf304
 v127:=Tryz.zeroValue304
 t138:=Tryz.underlying300
 a138:=Tryz.isAgg300
 z138:=Tryz.sizeOf300
 v138:=Tryz.zeroValue300
 t139:=Tryz.underlying301
 a139:=Tryz.isAgg301
 z139:=Tryz.sizeOf301
 v139:=Tryz.zeroValue301
 t160:=Tryz.underlying325
 a160:=Tryz.isAgg325
 z160:=Tryz.sizeOf325
 v160:=Tryz.zeroValue325
 t162:=Tryz.underlying321
 a162:=Tryz.isAgg321
 z162:=Tryz.sizeOf321
 v162:=Tryz.zeroValue321
 t164:=Tryz.underlying315
 a164:=Tryz.isAgg315
 z164:=Tryz.sizeOf315
 v164:=Tryz.zeroValue315
 t203:=Tryz.underlying319
 a203:=Tryz.isAgg319
 z203:=Tryz.sizeOf319
 v203:=Tryz.zeroValue319
 t206:=Tryz.underlying329
 a206:=Tryz.isAgg329
 z206:=Tryz.sizeOf329
 v206:=Tryz.zeroValue329
 t208:=Tryz.underlying331
 a208:=Tryz.isAgg331
 z208:=Tryz.sizeOf331
 v208:=Tryz.zeroValue331
 g3:=by kernel_rfl
 g4:=by kernel_rfl
 g13:=by kernel_rfl}
theorem Tryz.Builder_Extra_158:Builder.Extra Tryz.prog Tryz.lays158_ren:= {
 sizeBuilder:=by kernel_rfl
 liesBuilder:=by kernel_rfl
 t5:=Tryz.underlying5
 a5:=Tryz.isAgg5
 z5:=Tryz.sizeOf5
 v5:=Tryz.zeroValue5
 infoByte:=by kernel_rfl
 cellsByte:=by kernel_rfl
 sizeByte:=by kernel_rfl
 neB5:=by decide}
open Go.RowKit in
theorem Tryz.strings_ToUpper_ascii (s:ByteArray)(w:World)(hs:s.size≤140737488355328)(hascii: ∀(j:Nat) (b:UInt8),s.data.toList[j]? =some b→b.toNat<128):
  Calls Tryz.prog 183 #[.string s] w fun e w'=>e=.returned (.string ⟨(Lib.toUpperA s.data.toList).toArray⟩)∧Below w.heap.size w w':=Any.strings_ToUpper_ascii Tryz.lays158 Tryz.Builder_Extra_158 s w hs hascii
def Tryz.laysM176_ren:Go.Shelf.Ren:=⟨fun | 176=>156 | 249=>185 | 288=>229 | 283=>250 | 284=>251 | 285=>252 | 286=>253 | 129=>196 | 317=>261 | 318=>262 | 319=>263 | 320=>264 | 337=>268 | 338=>269 | n=>n,fun | 37=>78 | 2=>2 | 3=>3 | 53=>263 | 4=>4 | 9=>9 | 171=>308 | 0=>0 | 173=>310 | 212=>323 | 51=>261 | 5=>5 | 20=>20 | 213=>324 | 46=>163 | 232=>332 | 233=>333 | n=>n,fun | 17=>6 | 18=>7 | 19=>8 | n=>n⟩
theorem Tryz.laysM176:Go.Proofs.LaysM.n176 Tryz.prog Tryz.laysM176_ren:= {
 mixed:=by kernel_rfl
 f129:=Tryz.func196.trans (congrArg some (by kernel_rfl))
 f176:=Tryz.func156.trans (congrArg some (by kernel_rfl))
 f249:=Tryz.func185.trans (congrArg some (by kernel_rfl))
 f283:=Tryz.func250.trans (congrArg some (by kernel_rfl))
 f284:=Tryz.func251.trans (congrArg some (by kernel_rfl))
 f285:=Tryz.func252.trans (congrArg some (by kernel_rfl))
 f286:=Tryz.func253.trans (congrArg some (by kernel_rfl))
 f288:=Tryz.func229.trans (congrArg some (by kernel_rfl))
 f317:=Tryz.func261.trans (congrArg some (by kernel_rfl))
 f318:=Tryz.func262.trans (congrArg some (by kernel_rfl))
 f319:=Tryz.func263.trans (congrArg some (by kernel_rfl))
 f320:=Tryz.func264.trans (congrArg some (by kernel_rfl))
 f337:=Tryz.func268.trans (congrArg some (by kernel_rfl))
 f338:=Tryz.func269.trans (congrArg some (by kernel_rfl))
 t0:=Tryz.underlying0
 a0:=Tryz.isAgg0
 z0:=Tryz.sizeOf0
 v0:=Tryz.zeroValue0
 t2:=Tryz.underlying2
 a2:=Tryz.isAgg2
 z2:=Tryz.sizeOf2
 v2:=Tryz.zeroValue2
 t3:=Tryz.underlying3
 a3:=Tryz.isAgg3
 z3:=Tryz.sizeOf3
 v3:=Tryz.zeroValue3
 t4:=Tryz.underlying4
 a4:=Tryz.isAgg4
 z4:=Tryz.sizeOf4
 v4:=Tryz.zeroValue4
 t5:=Tryz.underlying5
 a5:=Tryz.isAgg5
 z5:=Tryz.sizeOf5
 v5:=Tryz.zeroValue5
 t9:=Tryz.underlying9
 a9:=Tryz.isAgg9
 z9:=Tryz.sizeOf9
 v9:=Tryz.zeroValue9
 t20:=Tryz.underlying20
 a20:=Tryz.isAgg20
 z20:=Tryz.sizeOf20
 v20:=Tryz.zeroValue20
 t37:=Tryz.underlying78
 a37:=Tryz.isAgg78
 z37:=Tryz.sizeOf78
 v37:=Tryz.zeroValue78
 t46:=Tryz.underlying163
 a46:=Tryz.isAgg163
 z46:=Tryz.sizeOf163
 v46:=Tryz.zeroValue163
 t51:=Tryz.underlying261
 a51:=Tryz.isAgg261
 z51:=Tryz.sizeOf261
 v51:=Tryz.zeroValue261
 t53:=Tryz.underlying263
 a53:=Tryz.isAgg263
 z53:=Tryz.sizeOf263
 v53:=Tryz.zeroValue263
 t171:=Tryz.underlying308
 a171:=Tryz.isAgg308
 z171:=Tryz.sizeOf308
 v171:=Tryz.zeroValue308
 t173:=Tryz.underlying310
 a173:=Tryz.isAgg310
 z173:=Tryz.sizeOf310
 v173:=Tryz.zeroValue310
 t212:=Tryz.underlying323
 a212:=Tryz.isAgg323
 z212:=Tryz.sizeOf323
 v212:=Tryz.zeroValue323
 t213:=Tryz.underlying324
 a213:=Tryz.isAgg324
 z213:=Tryz.sizeOf324
 t232:=Tryz.underlying332
 a232:=Tryz.isAgg332
 z232:=Tryz.sizeOf332
 v232:=Tryz.zeroValue332
 t233:=Tryz.underlying333
 a233:=Tryz.isAgg333
 z233:=Tryz.sizeOf333
 v233:=Tryz.zeroValue333
 g17:=by kernel_rfl
 g18:=by kernel_rfl
 g19:=by kernel_rfl
 i0:=by kernel_rfl
 i2:=by kernel_rfl
 i3:=by kernel_rfl
 i4:=by kernel_rfl
 i5:=by kernel_rfl
 i9:=by kernel_rfl
 i20:=by kernel_rfl
 i37:=by kernel_rfl
 i46:=by kernel_rfl
 i51:=by kernel_rfl
 i53:=by kernel_rfl
 i171:=by kernel_rfl
 i173:=by kernel_rfl
 i212:=by kernel_rfl
 i232:=by kernel_rfl
 i233:=by kernel_rfl
 m17:=by kernel_rfl
 m18:=by kernel_rfl
 m19:=by kernel_rfl}
open Go.RowKit Go.Sort Go.Lib in
theorem Tryz.strconv_AppendInt_10 (B n:Nat) (i:Int) (h0: -9223372036854775808≤i) (h1:i≤9223372036854775807) (sv:Value) (xs:List Value) (w:World) (hown:w.ownsRow B 5 1 sv n xs) (hBw:B≤w.heap.size) (hlim:n+21≤140737488355328) (htab:Lib.TabBelow Tryz.prog B w "internal/strconv.uint64pow10" .u64 Lib.pow10Tab):
  Calls Tryz.prog 156 #[sv,.int .i64 i,.int .i64 10] w fun e w'=> ∃v',e=.returned v'∧w'.ownsRow B 5 1 v' (n+(Lib.itoa i).length) (xs++Lib.byteCells (Lib.itoa i))∧Below B w w'∧Lib.OthersKept 5 none w w':=Any.strconv_AppendInt_10 Tryz.laysM176 B n i h0 h1 sv xs w hown hBw hlim htab
def Tryz.laysSlM5_f111_ren:Go.Shelf.Ren:=⟨fun | 5=>111 | 8=>159 | 7=>158 | 19=>195 | 20=>196 | 10=>186 | 11=>187 | 12=>188 | 13=>189 | 14=>190 | 15=>191 | 16=>192 | 17=>193 | 18=>194 | 30=>230 | 31=>231 | 32=>232 | 33=>233 | 34=>234 | 35=>161 | 40=>254 | n=>n,fun | 23=>90 | 25=>3 | 3=>3 | 32=>163 | 22=>90 | 0=>0 | 44=>261 | 46=>263 | 4=>4 | 36=>255 | 35=>254 | 41=>123 | 5=>5 | 9=>9 | 53=>290 | 57=>294 | 63=>312 | 64=>174 | n=>n,fun | n=>n⟩
theorem Tryz.laysSlM5_f111:Go.Proofs.SlLaysM.n5 Tryz.prog Tryz.laysSlM5_f111_ren:= {
 mixed:=by kernel_rfl
 f5:=⟨Tryz.f111.name,by decide,Tryz.func111.trans (congrArg some (by kernel_rfl))⟩
 f7:=⟨Tryz.f158.name,by decide,Tryz.func158.trans (congrArg some (by kernel_rfl))⟩
 f8:=Tryz.func159.trans (congrArg some (by kernel_rfl))
 f10:=⟨Tryz.f186.name,by decide,Tryz.func186.trans (congrArg some (by kernel_rfl))⟩
 f11:=⟨Tryz.f187.name,by decide,Tryz.func187.trans (congrArg some (by kernel_rfl))⟩
 f12:=⟨Tryz.f188.name,by decide,Tryz.func188.trans (congrArg some (by kernel_rfl))⟩
 f13:=⟨Tryz.f189.name,by decide,Tryz.func189.trans (congrArg some (by kernel_rfl))⟩
 f14:=⟨Tryz.f190.name,by decide,Tryz.func190.trans (congrArg some (by kernel_rfl))⟩
 f15:=⟨Tryz.f191.name,by decide,Tryz.func191.trans (congrArg some (by kernel_rfl))⟩
 f16:=⟨Tryz.f192.name,by decide,Tryz.func192.trans (congrArg some (by kernel_rfl))⟩
 f17:=⟨Tryz.f193.name,by decide,Tryz.func193.trans (congrArg some (by kernel_rfl))⟩
 f18:=⟨Tryz.f194.name,by decide,Tryz.func194.trans (congrArg some (by kernel_rfl))⟩
 f19:=Tryz.func195.trans (congrArg some (by kernel_rfl))
 f20:=Tryz.func196.trans (congrArg some (by kernel_rfl))
 f30:=⟨Tryz.f230.name,by decide,Tryz.func230.trans (congrArg some (by kernel_rfl))⟩
 f31:=Tryz.func231.trans (congrArg some (by kernel_rfl))
 f32:=Tryz.func232.trans (congrArg some (by kernel_rfl))
 f33:=⟨Tryz.f233.name,by decide,Tryz.func233.trans (congrArg some (by kernel_rfl))⟩
 f34:=⟨Tryz.f234.name,by decide,Tryz.func234.trans (congrArg some (by kernel_rfl))⟩
 f35:=⟨Tryz.f161.name,by decide,Tryz.func161.trans (congrArg some (by kernel_rfl))⟩
 f40:=⟨Tryz.f254.name,by decide,Tryz.func254.trans (congrArg some (by kernel_rfl))⟩
 t0:=Tryz.underlying0
 a0:=Tryz.isAgg0
 z0:=Tryz.sizeOf0
 v0:=Tryz.zeroValue0
 t3:=Tryz.underlying3
 a3:=Tryz.isAgg3
 z3:=Tryz.sizeOf3
 v3:=Tryz.zeroValue3
 t4:=Tryz.underlying4
 a4:=Tryz.isAgg4
 z4:=Tryz.sizeOf4
 v4:=Tryz.zeroValue4
 t5:=Tryz.underlying5
 a5:=Tryz.isAgg5
 z5:=Tryz.sizeOf5
 v5:=Tryz.zeroValue5
 t9:=Tryz.underlying9
 a9:=Tryz.isAgg9
 z9:=Tryz.sizeOf9
 v9:=Tryz.zeroValue9
 t22:=Tryz.underlying90
 a22:=Tryz.isAgg90
 z22:=Tryz.sizeOf90
 v22:=Tryz.zeroValue90
 t23:=Tryz.underlying90
 a23:=Tryz.isAgg90
 z23:=Tryz.sizeOf90
 v23:=Tryz.zeroValue90
 t25:=Tryz.underlying3
 a25:=Tryz.isAgg3
 z25:=Tryz.sizeOf3
 v25:=Tryz.zeroValue3
 t32:=Tryz.underlying163
 a32:=Tryz.isAgg163
 z32:=Tryz.sizeOf163
 v32:=Tryz.zeroValue163
 t35:=Tryz.underlying254
 a35:=Tryz.isAgg254
 z35:=Tryz.sizeOf254
 v35:=Tryz.zeroValue254
 t36:=Tryz.underlying255
 a36:=Tryz.isAgg255
 z36:=Tryz.sizeOf255
 v36:=Tryz.zeroValue255
 t41:=Tryz.underlying123
 a41:=Tryz.isAgg123
 z41:=Tryz.sizeOf123
 v41:=Tryz.zeroValue123
 t44:=Tryz.underlying261
 a44:=Tryz.isAgg261
 z44:=Tryz.sizeOf261
 v44:=Tryz.zeroValue261
 t46:=Tryz.underlying263
 a46:=Tryz.isAgg263
 z46:=Tryz.sizeOf263
 v46:=Tryz.zeroValue263
 t53:=Tryz.underlying290
 a53:=Tryz.isAgg290
 z53:=Tryz.sizeOf290
 v53:=Tryz.zeroValue290
 t57:=Tryz.underlying294
 a57:=Tryz.isAgg294
 z57:=Tryz.sizeOf294
 v57:=Tryz.zeroValue294
 t63:=Tryz.underlying312
 a63:=Tryz.isAgg312
 z63:=Tryz.sizeOf312
 v63:=Tryz.zeroValue312
 t64:=Tryz.underlying174
 a64:=Tryz.isAgg174
 z64:=Tryz.sizeOf174
 v64:=Tryz.zeroValue174}
open Go.Sort Go.RowKit in
open Go.RowKit Go.Sort in
def Tryz.keysA_ren:Go.Shelf.Ren:=⟨fun | 7=>59 | 10=>112 | n=>n,fun | 23=>101 | 26=>3 | 3=>141 | 28=>138 | 0=>0 | 27=>137 | 33=>125 | 4=>4 | n=>n,fun | n=>n⟩
theorem Tryz.keysA:Go.Proofs.SlLaysZI.n7 Tryz.prog Tryz.keysA_ren:= {
 mixed:=by kernel_rfl
 f7:=⟨Tryz.f59.name,by decide,Tryz.func59.trans (congrArg some (by kernel_rfl))⟩
 f10:=⟨Tryz.f112.name,by decide,Tryz.func112.trans (congrArg some (by kernel_rfl))⟩
 t0:=Tryz.underlying0
 a0:=Tryz.isAgg0
 z0:=Tryz.sizeOf0
 v0:=Tryz.zeroValue0
 t4:=Tryz.underlying4
 a4:=Tryz.isAgg4
 z4:=Tryz.sizeOf4
 v4:=Tryz.zeroValue4
 t23:=Tryz.underlying101
 a23:=Tryz.isAgg101
 z23:=Tryz.sizeOf101
 v23:=Tryz.zeroValue101
 t26:=Tryz.underlying3
 a26:=Tryz.isAgg3
 z26:=Tryz.sizeOf3
 v26:=Tryz.zeroValue3
 t27:=Tryz.underlying137
 a27:=Tryz.isAgg137
 z27:=Tryz.sizeOf137
 v27:=Tryz.zeroValue137
 t28:=Tryz.underlying138
 a28:=Tryz.isAgg138
 z28:=Tryz.sizeOf138
 v28:=Tryz.zeroValue138
 t33:=Tryz.underlying125
 a33:=Tryz.isAgg125
 z33:=Tryz.sizeOf125
 v33:=Tryz.zeroValue125}
def Tryz.sortedA_ren:Go.Shelf.Ren:=⟨fun | 6=>58 | 8=>110 | 9=>111 | 11=>157 | 13=>159 | 12=>158 | 23=>195 | 24=>196 | 14=>186 | 15=>187 | 16=>188 | 17=>189 | 18=>190 | 19=>191 | 20=>192 | 21=>193 | 22=>194 | 25=>230 | 26=>231 | 27=>232 | 28=>233 | 29=>234 | 30=>161 | 31=>254 | n=>n,fun | 26=>3 | 28=>138 | 24=>90 | 0=>0 | 3=>3 | 37=>163 | 48=>261 | 50=>263 | 4=>4 | 40=>255 | 39=>254 | 45=>123 | 5=>5 | 9=>9 | 51=>290 | 55=>294 | 57=>312 | 58=>174 | 33=>125 | n=>n,fun | n=>n⟩
theorem Tryz.sortedA:Go.Proofs.SlLaysZI.n6 Tryz.prog Tryz.sortedA_ren:= {
 mixed:=by kernel_rfl
 f6:=⟨Tryz.f58.name,by decide,Tryz.func58.trans (congrArg some (by kernel_rfl))⟩
 f8:=⟨Tryz.f110.name,by decide,Tryz.func110.trans (congrArg some (by kernel_rfl))⟩
 f11:=⟨Tryz.f157.name,by decide,Tryz.func157.trans (congrArg some (by kernel_rfl))⟩
 t0:=Tryz.underlying0
 a0:=Tryz.isAgg0
 z0:=Tryz.sizeOf0
 v0:=Tryz.zeroValue0
 t24:=Tryz.underlying90
 a24:=Tryz.isAgg90
 z24:=Tryz.sizeOf90
 v24:=Tryz.zeroValue90
 t26:=Tryz.underlying3
 a26:=Tryz.isAgg3
 z26:=Tryz.sizeOf3
 v26:=Tryz.zeroValue3
 t28:=Tryz.underlying138
 a28:=Tryz.isAgg138
 z28:=Tryz.sizeOf138
 v28:=Tryz.zeroValue138
 i26:=by kernel_rfl}
end Go.Proofs
namespace Go.Proofs.YtpfkoldfbecdlaaGreatDoor
open Go.RowKit Go.Vf Go.Maps Go.Sort Go.Shelf
theorem a5z (m:Nat):AnyZI.SortsIn Tryz.prog Tryz.sortedA_ren Fence.wide m:=
  ⟨fun blk off cap ss W hH hblk hsz=>callsIn_wide.2 (AnyM.slices_Sort_int Tryz.laysSlM5_f111 blk off cap ss W hH hblk hsz),
   fun p cap W=>callsIn_wide.2 (AnyM.slices_Sort_int_none Tryz.laysSlM5_f111 p cap W)⟩
theorem azd (mb:Option Nat)(W:World):Calls Tryz.prog 59 #[.map mb] W fun e w'=>e=.returned (.func (.func 112) #[] #[.pointer (some ⟨W.heap.size,0,none⟩)])∧w'=W.alloc (.cells #[.map mb] 101):=
  (callsIn_wide (n:=5)).1 (AnyZI.keys_in Tryz.keysA Fence.wide 5 trivial rfl mb W)
set_option maxHeartbeats 1000000 in
theorem ar6 {H:Type}(b nn:Nat)(D0:DataW H)(R:Value→Option (DataW H×List MemPlace))(w:World)(hown:w.ownsMap Tryz.prog 3 R b nn D0)(hmax:Maps.size D0≤maxLen)(hbytes:Maps.size D0*8≤140737488355328):
    Calls Tryz.prog 58 #[.func (.func 112) #[] #[.pointer (some ⟨w.heap.size,0,none⟩)]] (w.alloc (.cells #[.map (some b)] 101)) fun e w'=> ∃(v:Value) (ss:List Int),e=.returned v∧ss.Perm (intKeys D0)∧
      w'.ownsRow (w.heap.size+1) 3 1 v ss.length ((ss.mergeSort (fun x y=>decide (x≤y))).map encZ)∧Below (w.heap.size+1) (w.alloc (.cells #[.map (some b)] 101)) w':=by
  refine(callsIn_wide (n:=5)).1 ?_
  have hbl:=hown.lt
  have hseq:SeqGives Fence.wide 2 Tryz.prog 112 #[.pointer (some ⟨w.heap.size,0,none⟩)] encZ (fun ss=>ss.Perm (intKeys D0)) (Maps.size D0) (w.alloc (.cells #[.map (some b)] 101)):=
    AnyZI.keys_gives (ρ:=Tryz.keysA_ren) {Tryz.keysA with} Fence.wide _ trivial rfl (by omega) w.heap.size b nn D0 _ (by simp) (by simp) (by
      obtain⟨es,clock,hb,Ft,hs,hD⟩:=hown
      exact⟨es,clock,(Below.heap_alloc _ _ b hbl).trans hb,Ft,hs,hD⟩)
  have cS:=AnyZI.sorted_in Tryz.sortedA Fence.wide 5 trivial trivial trivial trivial rfl (by omega) (a5z _) (enters_of Tryz.func111 (by kernel_rfl) rfl) 112 #[.pointer (some ⟨w.heap.size,0,none⟩)] trivial (enters_of Tryz.func112 (by kernel_rfl) rfl) _ _ hmax hbytes _ hseq
  change CallsIn _ _ Tryz.prog 58 _ _ _ at cS
  refine cS.mono ?_
  rintro e w' ⟨v,ss,rfl,hS,hrow,hnil,hb⟩
  rw[show (w.alloc (.cells #[.map (some b)] 101)).heap.size=w.heap.size+1 by simp] at hrow hb
  exact⟨v,ss,rfl,hS,hrow,hb⟩
end Go.Proofs.YtpfkoldfbecdlaaGreatDoor
namespace Go.Vf
def abm (n:Int):Bool:=decide (0≤n)&&decide (n≤1114111)&&(decide (n<55296)||decide (57343<n))
structure El where
 va:Bool
 pr:Int
 se:Int
 te:Int
deriving DecidableEq
abbrev Ent:=List Int×List El
def wtB (n:Int):Bool:=decide (0≤n)&&decide (n≤65535)
def aaf (e:El):Bool:=
 wtB e.pr&&wtB e.se&&wtB e.te&&decide (e.pr≤64319)&& !(decide (e.pr≠0)&&decide (e.se=0))&& !(decide (e.se≠0)&&decide (e.te=0))&&(decide (e.pr≠0)|| !e.va)
def atd (s:List UInt8):Option Nat:=act ac7 16 s 0
def ptR (s:List UInt8):Option Int:=
 if s.length=4∨(4<s.length∧s.length≤6∧s.head?≠some 48) then (atd s).map (fun n=>(n:Int)) else none
def arx:List (List UInt8)→Option (List Int)
 | []=>some []
 | s::r=>match ptR s with
  | none=>none
  | some p=>match arx r with
   | none=>none
   | some l=>some (p::l)
def ac9 (l:List Int):Bool:=decide (1≤l.length)&&decide (l.length≤8)&&l.all abm
def rowR (s:List UInt8):Option (List Int):=match arx (aa5 32 s) with
 | none=>none
 | some l=>if ac9 l then some l else none
def af3 (s:List UInt8):Option Int:=match atd s with
 | none=>none
 | some n=>if s.length=4 then some (n:Int) else none
def ae7 (va:Bool):List (List UInt8)→Option El
 | [a,b,c]=>match af3 a with
  | none=>none
  | some x=>match af3 b with
   | none=>none
   | some y=>match af3 c with
    | none=>none
    | some z=>some ⟨va,x,y,z⟩
 | _=>none
def elR (s:List UInt8):Option El:=
 if s[0]? =some 91∧(s[1]? =some 46∨s[1]? =some 42)∧s[16]? =some 93 then ae7 (s[1]? ==some 42) (aa5 46 ((s.drop 2).take 14)) else none
def anr:Nat→List UInt8→Option (List El)
 | 0,_=>some []
 | n+1,s=>match elR (s.take 17) with
  | none=>none
  | some e=>match anr n (s.drop 17) with
   | none=>none
   | some l=>some (e::l)
def aii (s:List UInt8):Option (List El):=if s=[]∨272<s.length∨s.length % 17≠0 then none else anr (s.length/17) s
def aig (c:UInt8):List UInt8→List UInt8×List UInt8
 | []=>([],[])
 | b::r=>if b=c then ([],r) else (b::(aig c r).1,(aig c r).2)
def aem (s:List UInt8):Option Ent:=match rowR (aig 59 s).1 with
 | none=>none
 | some p=>match aii (aig 59 s).2 with
  | none=>none
  | some l=>some (p,l)
def akk (E:List Ent)(p:List Int):Bool:=E.any (fun e=>e.1==p)
def afh:List (List UInt8)→Int→List Ent→Except (Int×Int) (List Ent)
 | [],_,acc=>.ok acc
 | s::r,n,acc=>
  if aax s then afh r (n+1) acc else
  match aem s with
  | none=>.error (60,n+1)
  | some x=>
   if x.2.all aaf then
    if akk acc x.1 then .error (61,n+1)
    else if 4096≤acc.length then .error (2,n+1)
    else afh r (n+1) (acc++[x])
   else .error (62,n+1)
def ac0 (s:List UInt8):Except (Int×Int) (List Ent):=if 65536<s.length then .error (2,0) else afh (aa5 10 s) 0 []
def ahr (E:List Ent)(p:List Int):Option (List El):=(E.find? (fun e=>e.1==p)).map Prod.snd
def aby:List Ent→Int→Nat
 | [],_=>0
 | e::r,x=>if e.1.head? =some x then max e.1.length (aby r x) else aby r x
structure EntOk (x:Ent):Prop where
 row:ac9 x.1=true
 n0:1≤x.2.length
 n1:x.2.length≤16
 ok:x.2.all aaf=true
theorem asb {s:List UInt8}{p:List Int}(h:rowR s=some p):ac9 p=true:=by
 unfold rowR at h
 split at h
 ·cases h
 ·split at h
  ·cases h;assumption
  ·cases h
theorem a2y: ∀(n:Nat) (s:List UInt8) (l:List El),anr n s=some l→l.length=n:=by
 intro n
 induction n with
 | zero=>intro s l h;simp[anr] at h;subst h;rfl
 | succ n ih=>
  intro s l h
  unfold anr at h
  split at h
  ·cases h
  ·split at h
   ·cases h
   ·rename_i q e
    cases h
    simp[ih _ _ e]
theorem elsR_len {s:List UInt8}{l:List El}(h:aii s=some l):1≤l.length∧l.length≤16∧l.length*17=s.length:=by
 unfold aii at h
 split at h
 ·cases h
 ·rename_i hc
  have hl:=a2y _ _ _ h
  have h0:s.length≠0:=fun e=>hc (.inl (List.eq_nil_of_length_eq_zero e))
  omega
theorem ati {s:List UInt8}{x:Ent}(h:aem s=some x):ac9 x.1=true∧1≤x.2.length∧x.2.length≤16:=by
 unfold aem at h
 split at h
 ·cases h
 ·rename_i p e1
  split at h
  ·cases h
  ·rename_i l e2
   cases h
   exact⟨asb e1,(elsR_len e2).1,(elsR_len e2).2.1⟩
theorem ang {E:List Ent}{p:List Int}(h:akk E p=false):p∉E.map Prod.fst:=by
 intro hp
 obtain⟨e,he,rfl⟩:=List.mem_map.1 hp
 unfold akk at h
 rw[List.any_eq_false] at h
 exact h e he (by simp)
theorem azt (E:List Ent)(p:List Int):akk E p=(ahr E p).isSome:=by
 unfold akk ahr
 rw[Option.isSome_map,Bool.eq_iff_iff,List.any_eq_true,List.find?_isSome]
theorem a4m: ∀(ls:List (List UInt8)) (n:Int) (acc E:List Ent),afh ls n acc=.ok E→(∀x∈acc,EntOk x)→(acc.map Prod.fst).Nodup→acc.length≤4096→(∀x∈E,EntOk x)∧(E.map Prod.fst).Nodup∧E.length≤4096:=by
 intro ls
 induction ls with
 | nil=>intro n acc E h h1 h2 h3;simp[afh] at h;subst h;exact⟨h1,h2,h3⟩
 | cons s r ih=>
  intro n acc E h h1 h2 h3
  unfold afh at h
  split at h
  ·exact ih _ _ _ h h1 h2 h3
  ·split at h
   ·cases h
   ·rename_i x hx
    split at h
    ·split at h
     ·cases h
     ·split at h
      ·cases h
      ·rename_i hr ht h4
       have hk:=ati hx
       refine ih _ _ _ h ?_ ?_ (by simp;omega)
       ·intro y hy
        rcases List.mem_append.1 hy with hy | hy
        ·exact h1 y hy
        ·rw[List.mem_singleton] at hy;subst hy;exact⟨hk.1,hk.2.1,hk.2.2,hr⟩
       ·rw[List.map_append,List.nodup_append]
        refine⟨h2,by simp,?_⟩
        intro a ha b hb e
        simp at hb
        subst hb e
        exact ang (by simpa using ht) ha
    ·cases h
theorem aoy {s:List UInt8}{E:List Ent}(h:ac0 s=.ok E):(∀x∈E,EntOk x)∧(E.map Prod.fst).Nodup∧E.length≤4096:=by
 unfold ac0 at h
 split at h
 ·cases h
 ·exact a4m _ _ _ _ h (by simp) (by simp) (by simp)
end Go.Vf
namespace Go.Vf
def adn (d:Nat):UInt8:=if d<10 then UInt8.ofNat (48+d) else UInt8.ofNat (87+d)
def ab7 (u:Nat):List UInt8:=if u<16 then [adn u] else ab7 (u/16)++[adn (u % 16)]
termination_by u
decreasing_by omega
theorem ahh {v:Nat}(h:16≤v):ab7 v=ab7 (v/16)++[adn (v % 16)]:=by
 rw[ab7,if_neg (by omega)]
theorem afo {v:Nat}(h: ¬16≤v):ab7 v=[adn v]:=by
 rw[ab7,if_pos (by omega)]
def aa3 (u:Nat):List UInt8:=Lib.toUpperA (ab7 u)
def aad (u:Nat):List UInt8:=List.replicate (4-(aa3 u).length) 48++aa3 u
theorem af1: ∀(u k:Nat),u<16^k→0<k→(ab7 u).length≤k:=by
 intro u
 induction u using Nat.strongRecOn with
 | ind u ih=>
  intro k hk h0
  by_cases h:16≤u
  ·rw[ahh h]
   obtain⟨k',rfl⟩: ∃k',k=k'+1:=⟨k-1,by omega⟩
   rw[Nat.pow_succ] at hk
   have hk':0<k':=by
    by_cases e:k'=0
    ·subst e;omega
    ·omega
   have:=ih (u/16) (by omega) k' (by omega) hk'
   simp;omega
  ·rw[afo h];simp;omega
theorem aj4: ∀(u:Nat),∀b∈ab7 u,b.toNat<128:=by
 intro u
 induction u using Nat.strongRecOn with
 | ind u ih=>
  have hl: ∀d,d<16→(adn d).toNat<128:=by decide
  by_cases h:16≤u
  ·intro b hb
   rw[ahh h] at hb
   rcases List.mem_append.1 hb with hb | hb
   ·exact ih (u/16) (by omega) b hb
   ·simp at hb;subst hb;exact hl _ (Nat.mod_lt _ (by omega))
  ·intro b hb
   rw[afo h] at hb
   simp at hb;subst hb;exact hl _ (by omega)
theorem afg (l:List UInt8):(Lib.toUpperA l).length=l.length:=by simp[Lib.toUpperA]
def aav:List Nat→List UInt8
 | []=>[]
 | [u]=>aad u
 | u::r=>aad u++32::aav r
theorem ahf (us:List Nat): ∀(k:Nat) (hk:k<us.length),aav (us.take (k+1))=aav (us.take k)++(if 0<k then [32] else [])++aad us[k]:=by
 have key: ∀(l:List Nat) (x:Nat),l≠ []→aav (l++[x])=aav l++[32]++aad x:=by
  intro l
  induction l with
  | nil=>intro x h;exact absurd rfl h
  | cons a r ih=>
   intro x _
   cases r with
   | nil=>simp[aav]
   | cons b t=>
    have:=ih x (by simp)
    simp only[List.cons_append] at this⊢
    rw[aav,this]
    ·simp[aav]
    ·simp
 intro k hk
 rw[List.take_succ_eq_append_getElem hk]
 by_cases h0:k=0
 ·subst h0;simp[aav]
 ·rw[key _ _ (fun e=>by
   have h1:(us.take k).length=k:=by rw[List.length_take];omega
   rw[e] at h1
   exact h0 h1.symm),if_pos (by omega)]
theorem aeo (u:Nat)(hu:u≤1114111):(aad u).length≤6∧4≤(aad u).length:=by
 have:=af1 u 6 (by omega) (by omega)
 unfold aad aa3
 rw[List.length_append,List.length_replicate,afg]
 omega
theorem alk: ∀(us:List Nat),(∀u∈us,u≤1114111)→(aav us).length≤7*us.length:=by
 intro us
 induction us with
 | nil=>simp[aav]
 | cons a r ih=>
  intro h
  have h1:=aeo a (h a (by simp))
  have h2:=ih (fun u hu=>h u (by simp[hu]))
  cases r with
  | nil=>simp[aav];omega
  | cons b t=>
   rw[aav]
   ·simp at h2⊢;omega
   ·simp
def acw (d:Nat):UInt8:=Lib.upperB (adn d)
theorem axo: ∀d,d<16→ac7 (acw d)=some d:=by decide
theorem amv: ∀d,d<16→acw d=48→d=0:=by decide
theorem axn: ∀d,d<16→acw d≠10∧acw d≠32∧acw d≠59∧acw d≠35:=by decide
theorem a2i:((List.range 256).all fun n=>match ac7 (UInt8.ofNat n) with
  | some d=>decide (d<16)&&(UInt8.ofNat n==acw d)
  | none=>true)=true:=by kernel_rfl
theorem awt {c:UInt8}{d:Nat}(h:ac7 c=some d):d<16∧c=acw d:=by
 have:=List.all_eq_true.1 a2i c.toNat (List.mem_range.2 c.toNat_lt)
 rw[show UInt8.ofNat c.toNat=c by simp,h] at this
 simpa using this
def aa9:Nat→Nat→List UInt8
 | 0,_=>[]
 | k+1,n=>aa9 k (n/16)++[acw (n % 16)]
theorem aca: ∀(k n:Nat),(aa9 k n).length=k:=by
 intro k
 induction k with
 | zero=>intro n;rfl
 | succ k ih=>intro n;simp[aa9,ih]
theorem am7: ∀(k n:Nat),∀b∈aa9 k n,∃d,d<16∧b=acw d:=by
 intro k
 induction k with
 | zero=>intro n b hb;simp[aa9] at hb
 | succ k ih=>
  intro n b hb
  rw[aa9] at hb
  rcases List.mem_append.1 hb with hb | hb
  ·exact ih _ b hb
  ·simp at hb;exact⟨_,Nat.mod_lt _ (by omega),hb⟩
theorem aqi (v:UInt8→Option Nat)(b:Nat)(c:UInt8): ∀(s:List UInt8) (m:Nat),act v b (s++[c]) m=match act v b s m with
  | none=>none
  | some n=>match v c with
   | none=>none
   | some d=>some (n*b+d):=by
 intro s
 induction s with
 | nil=>
  intro m
  simp only[List.nil_append,act]
  cases v c<;>rfl
 | cons a r ih=>
  intro m
  simp only[List.cons_append,act]
  cases v a with
  | none=>rfl
  | some d=>exact ih _
theorem ahe: ∀(k n m:Nat),act ac7 16 (aa9 k n) m=some (m*16^k+n % 16^k):=by
 intro k
 induction k with
 | zero=>intro n m;simp[aa9,act,Nat.mod_one]
 | succ k ih=>
  intro n m
  rw[aa9,aqi,ih,axo _ (Nat.mod_lt _ (by omega))]
  show some _=some _
  congr 1
  have e:= @Nat.mod_mul 16 (16^k) n
  rw[Nat.pow_succ,Nat.mul_comm (16^k) 16,e,Nat.add_mul]
  rw[show m*(16*16^k)=m*16^k*16 by rw[Nat.mul_comm 16,Nat.mul_assoc]]
  omega
theorem aoo: ∀(s:List UInt8) (m n:Nat),act ac7 16 s m=some n→ ∃r,r<16^s.length∧n=m*16^s.length+r∧s=aa9 s.length r:=by
 intro s
 induction hk:s.length generalizing s with
 | zero=>
  intro m n h
  have:s=[]:=List.length_eq_zero_iff.1 hk
  subst this
  simp[act] at h
  exact⟨0,by simp,by simp[h],rfl⟩
 | succ k ih=>
  intro m n h
  have hne:s≠ []:=by intro e;subst e;simp at hk
  obtain⟨t,c,rfl⟩: ∃t c,s=t++[c]:=⟨s.dropLast,s.getLast hne,(List.dropLast_concat_getLast hne).symm⟩
  have hkt:t.length=k:=by simpa using hk
  rw[aqi] at h
  cases h1:act ac7 16 t m with
  | none=>rw[h1] at h;cases h
  | some n'=>
   rw[h1] at h
   cases h2:ac7 c with
   | none=>rw[h2] at h;cases h
   | some d=>
    rw[h2] at h
    obtain⟨hd,hc⟩:=awt h2
    obtain⟨r,hr,hn,ht⟩:=ih t hkt m n' h1
    have hh:n'*16+d=n:=by simpa using h
    refine⟨r*16+d,?_,?_,?_⟩
    ·rw[Nat.pow_succ];omega
    ·rw[←hh,hn,Nat.pow_succ,Nat.add_mul,Nat.mul_assoc];omega
    ·rw[aa9,show(r*16+d)/16=r by omega,show(r*16+d) % 16=d by omega,←ht,hc]
theorem akt (u:Nat):aa3 u=if 16≤u then aa3 (u/16)++[acw (u % 16)] else [acw u]:=by
 unfold aa3
 split
 ·rename_i h
  rw[ahh h]
  simp[Lib.toUpperA,acw]
 ·rename_i h
  rw[afo h]
  simp[Lib.toUpperA,acw]
theorem aco (u k:Nat)(h:u<16^k)(h0:0<k):(aa3 u).length≤k:=by
 unfold aa3
 rw[afg]
 exact af1 u k h h0
theorem ad0: ∀(u k:Nat),(aa3 u).length≤k→u<16^k:=by
 intro u
 induction u using Nat.strongRecOn with
 | ind u ih=>
  intro k hk
  rw[akt] at hk
  split at hk
  ·rename_i h
   obtain⟨k',rfl⟩: ∃k',k=k'+1:=⟨k-1,by simp at hk;omega⟩
   have:=ih (u/16) (by omega) k' (by simp at hk;omega)
   rw[Nat.pow_succ];omega
  ·simp at hk
   obtain⟨k',rfl⟩: ∃k',k=k'+1:=⟨k-1,by omega⟩
   have:=Nat.pow_pos (n:=k') (show 0<16 by omega)
   rw[Nat.pow_succ];omega
theorem axm: ∀u:Nat,aa3 u=aa9 (aa3 u).length u:=by
 intro u
 induction u using Nat.strongRecOn with
 | ind u ih=>
  rw[akt]
  split
  ·rename_i h
   rw[List.length_append]
   show _=aa9 ((aa3 (u/16)).length+1) u
   rw[aa9,←ih (u/16) (by omega)]
  ·rename_i h
   show _=aa9 1 u
   rw[aa9,aa9,Nat.mod_eq_of_lt (by omega)]
   rfl
theorem aku (u:Nat):0<(aa3 u).length:=by
 rw[akt];split<;>simp
theorem asq: ∀(k j u:Nat),u<16^k→aa9 (j+k) u=List.replicate j 48++aa9 k u:=by
 intro k
 induction k with
 | zero=>
  intro j u h
  have h0:u=0:=by simpa using h
  subst h0
  induction j with
  | zero=>rfl
  | succ j ih=>
   show aa9 (j+0) 0++[acw 0]=_
   rw[ih,List.replicate_succ']
   show List.replicate j 48++[]++[acw 0]=List.replicate j 48++[48]++[]
   simp
   decide
 | succ k ih=>
  intro j u h
  rw[Nat.pow_succ] at h
  show aa9 (j+k) (u/16)++[_]=_
  rw[ih j (u/16) (by omega),aa9,List.append_assoc]
theorem age: ∀(k u:Nat),(aa9 (k+1) u).head? =some (acw (u/16^k % 16)):=by
 intro k
 induction k with
 | zero=>intro u;simp[aa9]
 | succ k ih=>
  intro u
  rw[aa9,List.head?_append,ih,Nat.div_div_eq_div_mul,Nat.pow_succ,Nat.mul_comm 16]
  rfl
theorem aaw (u:Nat):aad u=aa9 ((4-(aa3 u).length)+(aa3 u).length) u:=by
 unfold aad
 rw[asq _ _ _ (ad0 u _ (Nat.le_refl _)),←axm]
theorem abq {u:Nat}{b:UInt8}(h:b∈aad u):b≠10∧b≠32∧b≠59∧b≠35:=by
 rw[aaw] at h
 obtain⟨d,hd,rfl⟩:=am7 _ _ b h
 exact axn d hd
theorem ak6 (u:Nat):aad u≠ []:=by
 intro e
 have h1:=congrArg List.length e
 rw[aaw,aca] at h1
 have h2:=aku u
 simp only[List.length_nil] at h1
 omega
theorem a0j: ∀(us:List Nat),us≠ []→aa5 32 (aav us)=us.map aad:=by
 intro us
 induction us with
 | nil=>intro h;exact absurd rfl h
 | cons a r ih=>
  intro _
  cases r with
  | nil=>rw[aav,ady 32 _ (fun x hx=>(abq hx).2.1)];rfl
  | cons b t=>
   rw[aav,acj 32 _ _ (fun x hx=>(abq hx).2.1),ih (by simp)]
   ·rfl
   ·simp
theorem afz: ∀(r:List Nat) (a:Nat),aav (a::r)=aad a++r.flatMap fun x=>32::aad x:=by
 intro r
 induction r with
 | nil=>intro a;simp[aav]
 | cons b t ih=>intro a;rw[aav,ih b]<;>simp
theorem a2f: ∀(us:List Nat),us≠ []→aav us≠ []:=by
 intro us h e
 cases us with
 | nil=>exact h rfl
 | cons a r=>
  rw[afz] at e
  exact ak6 a (List.append_eq_nil_iff.1 e).1
theorem alj: ∀(us:List Nat),∀b∈aav us,b≠10∧b≠59:=by
 intro us
 induction us with
 | nil=>intro b hb;simp[aav] at hb
 | cons a r ih=>
  intro b hb
  cases r with
  | nil=>rw[aav] at hb;exact⟨(abq hb).1,(abq hb).2.2.1⟩
  | cons c t=>
   rw[aav] at hb
   ·rcases List.mem_append.1 hb with hb | hb
    ·exact⟨(abq hb).1,(abq hb).2.2.1⟩
    ·rcases List.mem_cons.1 hb with rfl | hb
     ·decide
     ·exact ih b hb
   ·simp
theorem ai3 (c:UInt8): ∀(s:List UInt8),s=(match aa5 c s with
  | []=>[]
  | a::r=>a++r.flatMap fun x=>c::x):=by
 intro s
 induction s with
 | nil=>simp[aa5]
 | cons b r ih=>
  cases hc:aa5 c r with
  | nil=>exact absurd hc (aif c r)
  | cons a t=>
   rw[hc] at ih
   simp only at ih
   by_cases hb:b=c
   ·have e:aa5 c (b::r)=[]::a::t:=by rw[aa5,if_pos hb,hc]
    rw[e]
    simp only[List.nil_append,List.flatMap_cons,List.cons_append]
    rw[←ih,hb]
   ·have e:aa5 c (b::r)=(b::a)::t:=by rw[aa5,if_neg hb,hc]
    rw[e]
    simp only[List.cons_append]
    rw[←ih]
end Go.Vf
