/- Contracts and lemmas (nothing is claimed here). -/
import Derived.Test.YtfhpgmlfgjfknaaGreatDoorJ1
import Derived.Maps.AppendAt
import Derived.Maps.OwnSet
import Derived.Maps.Ext
import Derived.Shelf.Small.Bits
import Derived.Shelf.Small.Strs
import Derived.Shelf.Small.Wraps
import Derived.Shelf.Strings.Search1
import Derived.Shelf.Strings.Search2
import Derived.Shelf.Strings.Search3
import Derived.Shelf.Strings.Cut
import Derived.Shelf.Strings.Count
import Derived.Shelf.LaysM
import Derived.Shelf.Strings.Shaped
import Derived.Shelf.Strings.Split
import Derived.Shelf.Strings.SplitShaped
import Derived.Ground.SlgnProg
import Derived.Shelf.SlicesG.Turned
import Derived.Shelf.SlicesG.Clone
import Derived.Test.YtfhpgmlfgjfknaaGreatDoorProg
namespace Go.Proofs.YtfhpgmlfgjfknaaGreatDoor
open Go.RowKit Go.Vf Go.Maps
theorem at1:(Tryz.prog.info? 3).map (fun i=>(i.zero,i.size,i.bytes))=some (some (.int .i64 0),1,8):=by kernel_rfl
def IOwn (w:World)(base:Nat)(v:Value)(zs:List Int):Prop:=w.ownsRow base 3 1 v zs.length (zs.map (Value.int .i64))
theorem aai {w:World}{b b':Nat}{e:TypeId}{size:Nat}{v:Value}{k:Nat}{xs:List Value}(h:w.ownsRow b e size v k xs)(hb:b'≤b):w.ownsRow b' e size v k xs:=by
 obtain⟨h1,h2⟩:=h
 refine⟨h1,?_⟩
 rcases h2 with h2 | ⟨g,cap,cur,e1,e2,e3⟩
 ·exact .inl h2
 ·exact .inr ⟨g,cap,cur,e1,Nat.le_trans hb e2,e3⟩
theorem IOwn.mono {w:World}{b b':Nat}{v:Value}{zs:List Int}(h:IOwn w b v zs)(hb:b'≤b):IOwn w b' v zs:=aai h hb
theorem IOwn.nil (w:World)(base:Nat):IOwn w base (.slice none 0 0) []:=World.ownsRow_nil _ _ _ _
theorem aan {w:World}{base:Nat}{e:TypeId}{size:Nat}{v:Value}{k:Nat}{xs:List Value}(h:w.ownsRow base e size v k xs){j:Nat}(hj:v.ownBlock=some j):base≤j∧ ∃cs f,w.heap[j]? =some (.cells cs e f):=by
 rcases h.2 with ⟨rfl,_⟩ | ⟨g,cap,cur,rfl,hb,hgb,_⟩
 ·simp[Value.ownBlock] at hj
 ·obtain rfl:g=j:=by simpa[Value.ownBlock] using hj
  exact⟨hb,_,_,hgb⟩
def Ints (n₀:Nat)(W:World)(v:Value)(zs:List Int):Prop:=
 (∃a cap,v=.slice a 0 cap∧zs=[])∨ ∃b off cap,v=.slice (some ⟨b,off,none⟩) zs.length cap∧b<n₀∧ ∀j,j<zs.length→W.cell? ⟨b,off+j,none⟩=some (.int .i64 (zs[j]?.getD 0))
theorem Ints.below {n₀ n:Nat}{A B:World}(h:Below n A B)(hn:n₀≤n){v:Value}{zs:List Int}:Ints n₀ A v zs→Ints n₀ B v zs
 | .inl e=>.inl e
 | .inr ⟨b,off,cap,e,hb,hc⟩=>.inr ⟨b,off,cap,e,hb,fun j hj=>(h.cell (p:=⟨b,off+j,none⟩) (show b<n by omega)).trans (hc j hj)⟩
theorem Ints.mono {n₀ n:Nat}{A:World}(hn:n₀≤n){v:Value}{zs:List Int}:Ints n₀ A v zs→Ints n A v zs
 | .inl e=>.inl e
 | .inr ⟨b,off,cap,e,hb,hc⟩=>.inr ⟨b,off,cap,e,Nat.lt_of_lt_of_le hb hn,hc⟩
theorem IOwn.form {w:World}{base:Nat}{v:Value}{zs:List Int}(h:IOwn w base v zs):
  (v=.slice none 0 0∧zs=[])∨ ∃g cap,v=.slice (some ⟨g,0,none⟩) zs.length cap∧base≤g∧g<w.heap.size∧zs.length≤cap∧(∀j,j<zs.length→w.cell? ⟨g,j,none⟩=some (.int .i64 (zs[j]?.getD 0)))∧(∀j,w.frozen? ⟨g,j,none⟩=false):=by
 obtain⟨h1,h2⟩:=h
 rcases h2 with ⟨rfl,hn⟩ | ⟨g,cap,cur,rfl,hb,hh,hc1,hc2,hc3,hc4⟩
 ·exact .inl ⟨rfl,List.eq_nil_of_length_eq_zero hn⟩
 ·refine .inr ⟨g,cap,rfl,hb,(Array.getElem?_eq_some_iff.1 hh).1,hc1,fun j hj=> ?_,fun j=> ?_⟩
  ·have hx:(zs.map (Value.int .i64))[j]? =some (.int .i64 (zs[j]?.getD 0)):=by simp[hj]
   rw[←hc4,List.getElem?_take_of_lt (by omega)] at hx
   simp only[World.cell?,hh]
   simpa using hx
  ·simp[World.frozen?,hh]
theorem IOwn.ints {w:World}{base:Nat}{v:Value}{zs:List Int}(h:IOwn w base v zs):Ints w.heap.size w v zs:=by
 rcases h.form with h | ⟨g,cap,rfl,hb,hlt,_,hc,_⟩
 ·exact .inl ⟨none,0,h⟩
 ·exact .inr ⟨g,0,cap,rfl,hlt,fun j hj=>by rw[Nat.zero_add];exact hc j hj⟩
theorem IOwn.val {w:World}{base:Nat}{v:Value}{zs:List Int}(h:IOwn w base v zs): ∃a cap,v=.slice a zs.length cap:=by
 rcases h.form with ⟨rfl,rfl⟩ | ⟨g,cap,rfl,_⟩
 ·exact⟨_,_,rfl⟩
 ·exact⟨_,_,rfl⟩
theorem amv {w w':World}(h:Below w.heap.size w w'):w.grownBy w' none:=⟨h.os,h.tape,h.output,h.size,fun k hk _=>h.block k hk⟩
theorem aad {w w':World}{base:Nat}{e:TypeId}{size:Nat}{v:Value}{k:Nat}{xs:List Value}(h:w.ownsRow base e size v k xs)(hb:Below w.heap.size w w'):w'.ownsRow base e size v k xs:=by
 refine World.ownsRow.kept h (amv hb) ?_
 cases v.ownBlock with
 | none=>exact .inl rfl
 | some j=>exact .inr (fun e=>by cases e)
theorem aao {w:World}{ops:Array Oper}{rest:List Oper}{o:Oper}{a:Act}{Q:Exit→Act→World→Prop}(hgd:o.guard=none)(s x:Operand)
  (ho:o.op=.call {callee:=.builtin .append,args:= #[s,x],argTypes:= #[46,46]})
  (base:Nat) (v:Value) (zs:List Int) (hs:a.eval s=v) (hown:IOwn w base v zs) (ys:List Int) (ad:Addr) (c:Nat) (hx:a.eval x=.slice (some ad) ys.length c)
  (hcell: ∀j,j<ys.length→w.cell? (ad.add j)=some (.int .i64 (ys[j]?.getD 0))) (hlen:zs.length+ys.length≤1099511627776) (hbase:base≤w.heap.size)
  (h: ∀a' c' w',IOwn w' base (.slice a' (zs.length+ys.length) c') (zs++ys)→w.grownBy w' v.ownBlock→((.slice a' (zs.length+ys.length) c':Value)=.slice none 0 0↔v=.slice none 0 0∧ys.length=0)→((Value.slice a' (zs.length+ys.length) c').ownBlock=v.ownBlock∨(Value.slice a' (zs.length+ys.length) c').ownBlock=some w.heap.size)→wpList Tryz.prog ops Q rest (a.put o.dst (.slice a' (zs.length+ys.length) c')) w'):
  wpList Tryz.prog ops Q (o::rest) a w:=by
 obtain⟨i,hi,hz,hsz,hby⟩:=info_parts at1
 refine wpList_append_own_at (P:=Tryz.prog) _ hgd s x 46 ho base 3 i (.int .i64 0) 1 8 Tryz.underlying46 hi hz hsz hby rfl (by decide) v zs.length (zs.map (Value.int .i64)) hs hown ad ys.length c (ys.map (Value.int .i64)) hx (by simp) ?_ ?_ ?_ ?_ hbase ?_
 ·intro j u hu
  have hj:j<ys.length:=by have:=(List.getElem?_eq_some_iff.1 hu).1;simpa using this
  rw[hcell j hj]
  simp[List.getElem?_map,List.getElem?_eq_getElem hj] at hu
  simp[List.getElem?_eq_getElem hj,hu]
 ·intro u hu
  obtain⟨y,_,rfl⟩:=List.mem_map.1 hu
  rfl
 ·unfold maxLen;omega
 ·omega
 ·intro v' w' h1 h2 h3 hat
  have h4:IOwn w' base v' (zs++ys):=by
   unfold IOwn
   rw[List.map_append,List.length_append]
   exact h1
  obtain⟨a',c',hv⟩:=h4.val
  rw[List.length_append] at hv
  subst hv
  exact h a' c' w' h4 h2 h3 hat
def Blk (W:World)(B:Nat)(t:TypeId)(cs:Array Value):Prop:=W.heap[B]? =some (.cells cs t (0,0))
theorem Blk.lt {W:World}{B:Nat}{t:TypeId}{cs:Array Value}(h:Blk W B t cs):B<W.heap.size:=(Array.getElem?_eq_some_iff.1 h).1
theorem Blk.cell {W:World}{B:Nat}{t:TypeId}{cs:Array Value}(h:Blk W B t cs)(j:Nat):W.cell? ⟨B,j,none⟩=cs[j]?:=by simp[World.cell?,show W.heap[B]? =_ from h]
theorem Blk.frozen {W:World}{B:Nat}{t:TypeId}{cs:Array Value}(h:Blk W B t cs)(j:Nat):W.frozen? ⟨B,j,none⟩=false:=by simp[World.frozen?,show W.heap[B]? =_ from h]
theorem Blk.new (W:World)(t:TypeId)(cs:Array Value):Blk (W.alloc (.cells cs t)) W.heap.size t cs:=heap_alloc_new W _
theorem Blk.below {W W':World}{B n:Nat}{t:TypeId}{cs:Array Value}(h:Blk W B t cs)(hb:Below n W W')(hB:B<n):Blk W' B t cs:=(hb.block B hB).trans h
theorem Blk.set {W:World}{B:Nat}{t:TypeId}{cs:Array Value}(j:Nat)(v:Value)(h:Blk W B t cs):Blk (W.setCell ⟨B,j,none⟩ v) B t (cs.setIfInBounds j v):=by
 obtain⟨hlt,hk⟩:=Array.getElem?_eq_some_iff.1 h
 show(W.heap.modify B _)[B]? =_
 rw[Array.getElem?_eq_getElem (by rw[Array.size_modify];exact hlt),Array.getElem_modify_self,hk]
 try rfl
theorem Blk.set3 {W:World}{B:Nat}{t:TypeId}{a b c:Value}(h:Blk W B t #[a,b,c])(a' b' c':Value):Blk (((W.setCell ⟨B,0,none⟩ a').setCell ⟨B,1,none⟩ b').setCell ⟨B,2,none⟩ c') B t #[a',b',c']:=by
 have:=((h.set 0 a').set 1 b').set 2 c'
 simpa using this
def ax7 (v:Value):Option (DataW Value×List MemPlace):=some (.held v,[])
def InI (x:Int):Prop:= -9223372036854775808≤x∧x≤9223372036854775807
theorem avl:Keyed Tryz.prog 3:=int_keyed Tryz.underlying3
theorem a8x {x:Int}(h:InI x):keyOf Tryz.prog 3 (.int .i64 x)=some (.int .i64 x):=keyOf_int_mk Tryz.underlying3 (by obtain⟨h1,h2⟩:=h;exact WalkArith.wf_i64 (by omega))
def MapAt (w:World)(b n:Nat)(f:Int→Option Value):Prop:=
 ∃D:DataW Value,w.ownsMap Tryz.prog 3 ax7 b n D∧ ∀x,InI x→Maps.has D (.int .i64 x)=(f x).isSome∧ ∀z,D.atKey (.int .i64 x) (.held z)=.held ((f x).getD z)
def aux (f:Int→Option Value)(x:Int)(v:Value):Int→Option Value:=fun y=>if y=x then some v else f y
section
variable {w:World}{b n:Nat}{f:Int→Option Value}
theorem MapAt.made (w:World):MapAt (w.alloc (.map #[] 0)) w.heap.size 0 (fun _=>none):=⟨_,World.ownsMap_made w _ _ _,fun _ _=>⟨rfl,fun _=>rfl⟩⟩
theorem MapAt.lt (h:MapAt w b n f):b<w.heap.size:=let ⟨_,h,_⟩:=h;h.lt
theorem MapAt.kept {w':World}{row:Option Nat}(h:MapAt w b n f)(hg:w.grownBy w' row)(hne:some b≠row):MapAt w' b n f:=let ⟨D,h,h2⟩:=h;⟨D,h.kept hg hne,h2⟩
theorem MapAt.block {w':World}(h:MapAt w b n f)(hg:w'.heap[b]? =w.heap[b]?):MapAt w' b n f:=by
 obtain⟨D,⟨es,clock,hb,F,hs,hD⟩,h2⟩:=h
 exact⟨D,⟨es,clock,hg.trans hb,F,hs,hD⟩,h2⟩
theorem MapAt.below {w':World}{B:Nat}(h:MapAt w b n f)(hg:Below B w w')(hb:b<B):MapAt w' b n f:=h.block (hg.block b hb)
theorem MapAt.alloc (h:MapAt w b n f)(o:Obj):MapAt (w.alloc o) b n f:=let ⟨D,h,h2⟩:=h;⟨D,h.alloc o,h2⟩
theorem MapAt.drew (h:MapAt w b n f):MapAt w.drew b n f:=let ⟨D,h,h2⟩:=h;⟨D,h.drew,h2⟩
theorem MapAt.mono (h:MapAt w b n f){n':Nat}(hn:n≤n'):MapAt w b n' f:=let ⟨D,h,h2⟩:=h;⟨D,h.mono hn,h2⟩
theorem MapAt.setCell (h:MapAt w b n f){a:Addr}(ha:b≠a.block)(u:Value):MapAt (w.setCell a u) b n f:=let ⟨D,h,h2⟩:=h;⟨D,h.setCell ha u,h2⟩
theorem MapAt.look (h:MapAt w b n f){t e:TypeId}(ht:Tryz.prog.underlying t=some (.map 3 e)){z:Value}(hz:(zeroValue e).run Tryz.prog w=.ok z w){k:Int}(hk:InI k):
  (Instr.lookup t (.map (some b)) (.int .i64 k) false).run Tryz.prog w=.ok ((f k).getD z) w:=by
 obtain⟨D,hown,h2⟩:=h
 obtain⟨v,ps,hrun,hv⟩:=hown.lookup avl ht hz (zd:=.held z) (zp:=[]) rfl (a8x hk)
 rw[(h2 k hk).2 z] at hv
 simp only[ax7,Option.some.injEq,Prod.mk.injEq,DataW.held.injEq] at hv
 rw[hrun,hv.1]
theorem MapAt.look_ok (h:MapAt w b n f){t e:TypeId}(ht:Tryz.prog.underlying t=some (.map 3 e)){z:Value}(hz:(zeroValue e).run Tryz.prog w=.ok z w){k:Int}(hk:InI k):
  (Instr.lookup t (.map (some b)) (.int .i64 k) true).run Tryz.prog w=.ok (.tuple #[(f k).getD z,.bool (f k).isSome]) w:=by
 obtain⟨D,hown,h2⟩:=h
 obtain⟨v,ps,hrun,hv⟩:=hown.look_ok avl ht hz (zd:=.held z) (zp:=[]) rfl (a8x hk)
 rw[(h2 k hk).2 z] at hv
 simp only[ax7,Option.some.injEq,Prod.mk.injEq,DataW.held.injEq] at hv
 rw[hrun,hv.1,(h2 k hk).1]
theorem MapAt.update (h:MapAt w b n f){t e:TypeId}(ht:Tryz.prog.underlying t=some (.map 3 e))(hn:n<maxLen){k:Int}(hk:InI k)(v:Value):
  ∃w',(Instr.mapUpdate t (.map (some b)) (.int .i64 k) v).run Tryz.prog w=.ok () w'∧MapAt w' b (n+1) (aux f k v)∧w.grownBy w' (some b)∧w'.heap.size=w.heap.size:=by
 obtain⟨D,hown,h2⟩:=h
 have him:=hown.isMap
 obtain⟨w',hrun,hown',hturn⟩:=hown.store avl ht hn (a8x hk) (d:=.held v) (ps:=[]) (val:=v) rfl
 refine⟨w',hrun,⟨_,hown',fun x hx=> ?_⟩,hturn.grown,?_⟩
 ·by_cases e:x=k
  ·subst e
   refine⟨?_,fun z=> ?_⟩
   ·rw[Maps.has_put_same him (show WideAt.IsKeyLit (.int .i64 x) from trivial)];simp[aux]
   ·rw[Maps.atKey_put_same him (show WideAt.IsKeyLit (.int .i64 x) from trivial)];simp[aux]
  ·have hne:(Lit.int .i64 x)≠ .int .i64 k:=fun e'=>e (by cases e';rfl)
   refine⟨?_,fun z=> ?_⟩
   ·rw[Maps.has_put_other hne,(h2 x hx).1];simp[aux,e]
   ·rw[Maps.atKey_put_other hne,(h2 x hx).2];simp[aux,e]
 ·obtain⟨es,clock,es',clock',_,e⟩:=hturn
  rw[e];simp[ChangeMaps.setBlock]
end
end Go.Proofs.YtfhpgmlfgjfknaaGreatDoor
namespace Go.Proofs
open Go.Shelf
def Tryz.lays137_ren:Go.Shelf.Ren:=⟨fun | 137=>228 | 217=>203 | 266=>226 | n=>n,fun | 9=>9 | 5=>5 | 3=>3 | n=>n,fun | n=>n⟩
theorem Tryz.lays137:Go.Proofs.Lays.n137 Tryz.prog Tryz.lays137_ren:= {
 mixed:=by kernel_rfl
 f137:=Tryz.func228.trans (congrArg some (by kernel_rfl))
 f217:=Tryz.func203.trans (congrArg some (by kernel_rfl))
 f266:=Tryz.func226.trans (congrArg some (by kernel_rfl))
 t3:=Tryz.underlying3
 a3:=Tryz.isAgg3
 z3:=Tryz.sizeOf3
 v3:=Tryz.zeroValue3
 t5:=Tryz.underlying5
 a5:=Tryz.isAgg5
 z5:=Tryz.sizeOf5
 v5:=Tryz.zeroValue5
 t9:=Tryz.underlying9
 a9:=Tryz.isAgg9
 z9:=Tryz.sizeOf9
 v9:=Tryz.zeroValue9}
open Go.RowKit in
theorem Tryz.strings_IndexByte (s:ByteArray)(c:Int)(w:World):
  Calls Tryz.prog 228 #[.string s,.int .u8 c] w fun e w'=>e=.returned (.int .i64 (Lib.indexByte s.data.toList c.toNat.toUInt8))∧w'=w:=Any.strings_IndexByte Tryz.lays137 s c w
def Tryz.lays122_ren:Go.Shelf.Ren:=⟨fun | 122=>42 | 215=>74 | n=>n,fun | 3=>3 | 4=>4 | n=>n,fun | n=>n⟩
theorem Tryz.lays122:Go.Proofs.Lays.n122 Tryz.prog Tryz.lays122_ren:= {
 mixed:=by kernel_rfl
 f122:=Tryz.func42.trans (congrArg some (by kernel_rfl))
 f215:=Tryz.func74.trans (congrArg some (by kernel_rfl))
 t3:=Tryz.underlying3
 a3:=Tryz.isAgg3
 z3:=Tryz.sizeOf3
 v3:=Tryz.zeroValue3
 t4:=Tryz.underlying4
 a4:=Tryz.isAgg4
 z4:=Tryz.sizeOf4
 v4:=Tryz.zeroValue4}
open Go.RowKit in
theorem Tryz.cmp_Compare_int (x y:Int)(w:World):
  Calls Tryz.prog 42 #[.int .i64 x,.int .i64 y] w fun e w'=>e=.returned (.int .i64 (Lib.compareInt x y))∧w'=w:=Any.cmp_Compare_int Tryz.lays122 x y w
def Tryz.lays145_ren:Go.Shelf.Ren:=⟨fun | 145=>134 | 220=>169 | 219=>168 | 217=>203 | 225=>204 | 224=>205 | 267=>206 | 266=>226 | 314=>227 | n=>n,fun | 9=>9 | 4=>4 | 59=>210 | 3=>3 | 5=>5 | 46=>129 | 146=>285 | 51=>252 | n=>n,fun | 1=>2 | n=>n⟩
theorem Tryz.lays145:Go.Proofs.Lays.n145 Tryz.prog Tryz.lays145_ren:= {
 mixed:=by kernel_rfl
 f145:=Tryz.func134.trans (congrArg some (by kernel_rfl))
 f217:=Tryz.func203.trans (congrArg some (by kernel_rfl))
 f219:=Tryz.func168.trans (congrArg some (by kernel_rfl))
 f220:=Tryz.func169.trans (congrArg some (by kernel_rfl))
 f224:=Tryz.func205.trans (congrArg some (by kernel_rfl))
 f225:=Tryz.func204.trans (congrArg some (by kernel_rfl))
 f266:=Tryz.func226.trans (congrArg some (by kernel_rfl))
 f267:=Tryz.func206.trans (congrArg some (by kernel_rfl))
 f314:=Tryz.func227.trans (congrArg some (by kernel_rfl))
 t3:=Tryz.underlying3
 a3:=Tryz.isAgg3
 z3:=Tryz.sizeOf3
 v3:=Tryz.zeroValue3
 t4:=Tryz.underlying4
 a4:=Tryz.isAgg4
 z4:=Tryz.sizeOf4
 v4:=Tryz.zeroValue4
 t5:=Tryz.underlying5
 a5:=Tryz.isAgg5
 z5:=Tryz.sizeOf5
 v5:=Tryz.zeroValue5
 t9:=Tryz.underlying9
 a9:=Tryz.isAgg9
 z9:=Tryz.sizeOf9
 v9:=Tryz.zeroValue9
 t46:=Tryz.underlying129
 a46:=Tryz.isAgg129
 z46:=Tryz.sizeOf129
 v46:=Tryz.zeroValue129
 t51:=Tryz.underlying252
 a51:=Tryz.isAgg252
 z51:=Tryz.sizeOf252
 v51:=Tryz.zeroValue252
 t59:=Tryz.underlying210
 a59:=Tryz.isAgg210
 z59:=Tryz.sizeOf210
 v59:=Tryz.zeroValue210
 t146:=Tryz.underlying285
 a146:=Tryz.isAgg285
 z146:=Tryz.sizeOf285
 v146:=Tryz.zeroValue285
 g1:=by kernel_rfl}
open Go.RowKit Go.Lib in
theorem Tryz.strings_Cut (s sep:ByteArray)(m:Int)(w:World)(hs:s.size<4294967281)(hm:w.cell? ⟨2,0,none⟩=some (.int .i64 m)):
  Calls Tryz.prog 134 #[.string s,.string sep] w fun e w'=>e=.returned (.tuple #[.string ⟨(Lib.cut s.data.toList sep.data.toList).1.toArray⟩,.string ⟨(Lib.cut s.data.toList sep.data.toList).2.1.toArray⟩,.bool (Lib.cut s.data.toList sep.data.toList).2.2])∧ ∃n,w'=w.drewN n:=Any.strings_Cut Tryz.lays145 s sep m w hs hm
def Tryz.lays146_ren:Go.Shelf.Ren:=⟨fun | 146=>50 | 221=>90 | 268=>131 | 138=>132 | 143=>133 | 195=>165 | 197=>166 | 218=>167 | 219=>168 | 260=>202 | 217=>203 | 225=>204 | 224=>205 | 267=>206 | 266=>226 | 314=>227 | n=>n,fun | 9=>9 | 31=>119 | 3=>3 | 4=>4 | 0=>0 | 105=>233 | 21=>21 | 5=>5 | 46=>129 | 119=>281 | 139=>284 | 138=>283 | 146=>285 | 51=>252 | n=>n,fun | 1=>2 | 3=>3 | 4=>4 | n=>n⟩
theorem Tryz.lays146:Go.Proofs.Lays.n146 Tryz.prog Tryz.lays146_ren:= {
 mixed:=by kernel_rfl
 f138:=Tryz.func132.trans (congrArg some (by kernel_rfl))
 f143:=Tryz.func133.trans (congrArg some (by kernel_rfl))
 f146:=Tryz.func50.trans (congrArg some (by kernel_rfl))
 f195:=Tryz.func165.trans (congrArg some (by kernel_rfl))
 f197:=Tryz.func166.trans (congrArg some (by kernel_rfl))
 f217:=Tryz.func203.trans (congrArg some (by kernel_rfl))
 f218:=Tryz.func167.trans (congrArg some (by kernel_rfl))
 f219:=Tryz.func168.trans (congrArg some (by kernel_rfl))
 f221:=Tryz.func90.trans (congrArg some (by kernel_rfl))
 f224:=Tryz.func205.trans (congrArg some (by kernel_rfl))
 f225:=Tryz.func204.trans (congrArg some (by kernel_rfl))
 f260:=Tryz.func202.trans (congrArg some (by kernel_rfl))
 f266:=Tryz.func226.trans (congrArg some (by kernel_rfl))
 f267:=Tryz.func206.trans (congrArg some (by kernel_rfl))
 f268:=Tryz.func131.trans (congrArg some (by kernel_rfl))
 f314:=Tryz.func227.trans (congrArg some (by kernel_rfl))
 t0:=Tryz.underlying0
 a0:=Tryz.isAgg0
 z0:=Tryz.sizeOf0
 v0:=Tryz.zeroValue0
 t3:=Tryz.underlying3
 a3:=Tryz.isAgg3
 z3:=Tryz.sizeOf3
 v3:=Tryz.zeroValue3
 t4:=Tryz.underlying4
 a4:=Tryz.isAgg4
 z4:=Tryz.sizeOf4
 v4:=Tryz.zeroValue4
 t5:=Tryz.underlying5
 a5:=Tryz.isAgg5
 z5:=Tryz.sizeOf5
 v5:=Tryz.zeroValue5
 t9:=Tryz.underlying9
 a9:=Tryz.isAgg9
 z9:=Tryz.sizeOf9
 v9:=Tryz.zeroValue9
 t21:=Tryz.underlying21
 a21:=Tryz.isAgg21
 z21:=Tryz.sizeOf21
 v21:=Tryz.zeroValue21
 t31:=Tryz.underlying119
 a31:=Tryz.isAgg119
 z31:=Tryz.sizeOf119
 v31:=Tryz.zeroValue119
 t46:=Tryz.underlying129
 a46:=Tryz.isAgg129
 z46:=Tryz.sizeOf129
 v46:=Tryz.zeroValue129
 t51:=Tryz.underlying252
 a51:=Tryz.isAgg252
 z51:=Tryz.sizeOf252
 v51:=Tryz.zeroValue252
 t105:=Tryz.underlying233
 a105:=Tryz.isAgg233
 z105:=Tryz.sizeOf233
 v105:=Tryz.zeroValue233
 t119:=Tryz.underlying281
 a119:=Tryz.isAgg281
 z119:=Tryz.sizeOf281
 t138:=Tryz.underlying283
 a138:=Tryz.isAgg283
 z138:=Tryz.sizeOf283
 v138:=Tryz.zeroValue283
 t139:=Tryz.underlying284
 a139:=Tryz.isAgg284
 z139:=Tryz.sizeOf284
 v139:=Tryz.zeroValue284
 t146:=Tryz.underlying285
 a146:=Tryz.isAgg285
 z146:=Tryz.sizeOf285
 v146:=Tryz.zeroValue285
 g1:=by kernel_rfl
 g3:=by kernel_rfl
 g4:=by kernel_rfl}
open Go.RowKit Go.Lib in
theorem Tryz.strings_Split (s sep:ByteArray)(m:Int)(w:World)(hs:s.size<4294967281)(hm:w.cell? ⟨2,0,none⟩=some (.int .i64 m))(h1:1≤sep.size):
  Calls Tryz.prog 50 #[.string s,.string sep] w fun e w'=>
   e=.returned (.slice (some ⟨w.heap.size,0,none⟩) (Lib.countB s sep+1) (Lib.countB s sep+1))∧w'=w.alloc (.cells ((Lib.splitB sep 0 (Lib.countB s sep) s).map Value.string).toArray 9):=Any.strings_Split Tryz.lays146 (by kernel_rfl) s sep m w hs hm h1
def Tryz.laysSlN29_f66_ren:Go.Shelf.Ren:=⟨fun | 29=>130 | n=>n,fun | 22=>46 | 23=>3 | 3=>3 | 0=>0 | 4=>4 | n=>n,fun | n=>n⟩
theorem Tryz.laysSlN29_f66:Go.Proofs.SlLaysN.n29 Tryz.prog Tryz.laysSlN29_f66_ren:= {
 mixed:=by kernel_rfl
 f29:=⟨Tryz.f130.name,by decide,Tryz.func130.trans (congrArg some (by kernel_rfl))⟩
 t0:=Tryz.underlying0
 a0:=Tryz.isAgg0
 z0:=Tryz.sizeOf0
 v0:=Tryz.zeroValue0
 t3:=Tryz.underlying3
 a3:=Tryz.isAgg3
 z3:=Tryz.sizeOf3
 v3:=Tryz.zeroValue3
 t4:=Tryz.underlying4
 a4:=Tryz.isAgg4
 z4:=Tryz.sizeOf4
 v4:=Tryz.zeroValue4
 t22:=Tryz.underlying46
 a22:=Tryz.isAgg46
 z22:=Tryz.sizeOf46
 v22:=Tryz.zeroValue46
 t23:=Tryz.underlying3
 a23:=Tryz.isAgg3
 z23:=Tryz.sizeOf3
 v23:=Tryz.zeroValue3}
open Go.Lib in
theorem Tryz.slices_Index_int (b off n c:Nat)(zs:List Int)(x:Int)(w:World)(hz:n≤zs.length)(hbig:n≤9223372036854775807)(hc: ∀j,j<zs.length→w.cell? ⟨b,off+j,none⟩=some (.int .i64 (zs.getD j 0))):
  Calls Tryz.prog 130 #[.slice (some ⟨b,off,none⟩) n c,.int .i64 x] w fun e w'=>e=.returned (.int .i64 (Lib.idxOf (zs.take n) x))∧w'=w:=AnyG.slices_Index_int Tryz.laysSlN29_f66 b off n c zs x w hz hbig hc
open Go.Lib in
def Tryz.laysSlN41_f50_ren:Go.Shelf.Ren:=⟨fun | 41=>80 | n=>n,fun | 22=>46 | 23=>3 | 4=>4 | n=>n,fun | n=>n⟩
theorem Tryz.laysSlN41_f50:Go.Proofs.SlLaysN.n41 Tryz.prog Tryz.laysSlN41_f50_ren:= {
 mixed:=by kernel_rfl
 f41:=⟨Tryz.f80.name,by decide,Tryz.func80.trans (congrArg some (by kernel_rfl))⟩
 t4:=Tryz.underlying4
 a4:=Tryz.isAgg4
 z4:=Tryz.sizeOf4
 v4:=Tryz.zeroValue4
 t22:=Tryz.underlying46
 a22:=Tryz.isAgg46
 z22:=Tryz.sizeOf46
 v22:=Tryz.zeroValue46
 t23:=Tryz.underlying3
 a23:=Tryz.isAgg3
 z23:=Tryz.sizeOf3
 v23:=Tryz.zeroValue3
 i23:=by kernel_rfl}
open Go.RowKit Go.Lib in
theorem Tryz.slices_Clone_int (b off n c:Nat)(zs:List Int)(w:World)(hz:n≤zs.length)(hbig:n*8≤140737488355328)(hc: ∀j,j<zs.length→w.cell? ⟨b,off+j,none⟩=some (.int .i64 (zs.getD j 0))):
  Calls Tryz.prog 80 #[.slice (some ⟨b,off,none⟩) n c] w fun e w'=> ∃v',e=.returned v'∧w'.ownsRow w.heap.size 3 1 v' n ((zs.take n).map (Value.int .i64))∧v'≠ .slice none 0 0∧Below w.heap.size w w':=AnyG.slices_Clone_int Tryz.laysSlN41_f50 b off n c zs w hz hbig hc
open Go.RowKit Go.Lib in
theorem Tryz.slices_Clone_int_nil (n c:Nat)(w:World):
  Calls Tryz.prog 80 #[.slice none n c] w fun e w'=>e=.returned (.slice none 0 0)∧w'=w:=AnyG.slices_Clone_int_nil Tryz.laysSlN41_f50 n c w
open Go.RowKit Go.Lib in
theorem Tryz.slices_Clone_int_zero (a:Addr)(c:Nat)(w:World):
  Calls Tryz.prog 80 #[.slice (some a) 0 c] w fun e w'=> ∃v',e=.returned v'∧w'.ownsRow w.heap.size 3 1 v' 0 []∧v'≠ .slice none 0 0∧Below w.heap.size w w':=AnyG.slices_Clone_int_zero Tryz.laysSlN41_f50 a c w
def Tryz.laysSlN31_f101_ren:Go.Shelf.Ren:=⟨fun | 31=>178 | 29=>130 | n=>n,fun | 22=>46 | 23=>3 | 4=>4 | 3=>3 | 0=>0 | n=>n,fun | n=>n⟩
theorem Tryz.laysSlN31_f101:Go.Proofs.SlLaysN.n31 Tryz.prog Tryz.laysSlN31_f101_ren:= {
 mixed:=by kernel_rfl
 f29:=⟨Tryz.f130.name,by decide,Tryz.func130.trans (congrArg some (by kernel_rfl))⟩
 f31:=⟨Tryz.f178.name,by decide,Tryz.func178.trans (congrArg some (by kernel_rfl))⟩
 t0:=Tryz.underlying0
 a0:=Tryz.isAgg0
 z0:=Tryz.sizeOf0
 v0:=Tryz.zeroValue0
 t3:=Tryz.underlying3
 a3:=Tryz.isAgg3
 z3:=Tryz.sizeOf3
 v3:=Tryz.zeroValue3
 t4:=Tryz.underlying4
 a4:=Tryz.isAgg4
 z4:=Tryz.sizeOf4
 v4:=Tryz.zeroValue4
 t22:=Tryz.underlying46
 a22:=Tryz.isAgg46
 z22:=Tryz.sizeOf46
 v22:=Tryz.zeroValue46
 t23:=Tryz.underlying3
 a23:=Tryz.isAgg3
 z23:=Tryz.sizeOf3
 v23:=Tryz.zeroValue3}
open Go.Lib in
theorem Tryz.slices_Contains_int (b off n c:Nat)(zs:List Int)(x:Int)(w:World)(hz:n≤zs.length)(hbig:n≤9223372036854775807)(hc: ∀j,j<zs.length→w.cell? ⟨b,off+j,none⟩=some (.int .i64 (zs.getD j 0))):
  Calls Tryz.prog 178 #[.slice (some ⟨b,off,none⟩) n c,.int .i64 x] w fun e w'=>e=.returned (.bool ((zs.take n).contains x))∧w'=w:=AnyG.slices_Contains_int Tryz.laysSlN31_f101 b off n c zs x w hz hbig hc
open Go.Lib in
theorem Tryz.slices_Contains_int_empty (a:Option Addr)(c:Nat)(x:Int)(w:World):
  Calls Tryz.prog 178 #[.slice a 0 c,.int .i64 x] w fun e w'=>e=.returned (.bool false)∧w'=w:=AnyG.slices_Contains_int_empty Tryz.laysSlN31_f101 a c x w
end Go.Proofs
namespace Go.Proofs.YtfhpgmlfgjfknaaGreatDoor
open Go.RowKit Go.Vf Go.Maps
def Strs (w:World)(g:Nat)(l:List (List UInt8)):Prop:=w.heap[g]? =some (.cells ((l.map bsz).map Value.string).toArray 9 (0,0))
theorem Strs.cell {w:World}{g:Nat}{l:List (List UInt8)}(h:Strs w g l){j:Nat}(hj:j<l.length):w.cell? ⟨g,j,none⟩=some (.string (bsz l[j])):=by
 simp only[World.cell?,show w.heap[g]? =_ from h]
 simp[hj]
theorem Strs.below {w w':World}{g B:Nat}{l:List (List UInt8)}(h:Strs w g l)(hb:Below B w w')(hg:g<B):Strs w' g l:=(hb.block g hg).trans h
theorem ad3 (c:UInt8)(s:ByteArray)(m:Int)(w:World)(hs:s.size≤65536)(hm:w.cell? ⟨2,0,none⟩=some (.int .i64 m)):
  Calls Tryz.prog 50 #[.string s,.string ⟨#[c]⟩] w fun e w'=>e=.returned (.slice (some ⟨w.heap.size,0,none⟩) (aa3 c s.data.toList).length (aa3 c s.data.toList).length)∧Strs w' w.heap.size (aa3 c s.data.toList)∧Below w.heap.size w w'∧w'.heap.size=w.heap.size+1:=by
 refine(Tryz.strings_Split s ⟨#[c]⟩ m w (by omega) hm (Nat.le_refl _)).mono ?_
 rintro e w' ⟨rfl,rfl⟩
 rw[auh]
 refine⟨rfl,?_,(Below.refl _ _).alloc (Nat.le_refl _) _,by simp⟩
 show(w.alloc _).heap[w.heap.size]? =_
 rw[(MapKept.heap_alloc w _).1,ap8]
def amj (line:Int)(w:World)(r:Option (List Int))(e:Ending)(w':World):Prop:=
 match r with
 | none=>e=ajt 40 line∧Below w.heap.size w w'
 | some l=> ∃a n cap,e=.returned (.slice a n cap)∧IOwn w' w.heap.size (.slice a n cap) l∧Below w.heap.size w w'
theorem aku (q:Int)(w:World): ∀j,j< [q].length→(w.alloc (.cells #[.int .i64 q] 3)).cell? ((⟨w.heap.size,0,none⟩:Addr).add j)=some (.int .i64 ([q][j]?.getD 0)):=by
 intro j hj
 obtain rfl:j=0:=by simpa using hj
 simp[Addr.add]
set_option maxHeartbeats 1000000 in
theorem ao3 (b:Nat)(s:ByteArray)(line m:Int)(w:World)(hs:s.size≤65536)(hm:w.cell? ⟨2,0,none⟩=some (.int .i64 m))(hl:w.cell? ⟨b,0,none⟩=some (.int .i64 line)):
  Calls Tryz.prog 112 #[.pointer (some ⟨b,0,none⟩),.string s] w fun e w'=>amj line w (ad5 s.data.toList) e w':=by
 have hsl:s.data.toList.length=s.size:=(Lib.size_eq s).symm
 by_cases hemp:s.data.toList=[]
 ·have hemp':s.toList.isEmpty=true:=by rw[ByteArray.toList_eq];simpa using hemp
  rw[show ad5 s.data.toList=some [] by simp[ad5,hemp]]
  clear hemp
  go_enter Tryz.func112,Tryz.ntmps112
  go_wp2
  go_ret
  exact⟨_,_,_,rfl,IOwn.nil _ _,Below.refl _ _⟩
 ·have hemp':s.toList.isEmpty=false:=by rw[ByteArray.toList_eq];simpa using hemp
  rw[show ad5 s.data.toList=aa2 (aa3 32 s.data.toList) by simp[ad5,hemp]]
  have hcl:=abl 32 s.data.toList
  have hcs:=abj 32 s.data.toList
  have hbl:=World.block_lt_of_cell? w _ hl
  generalize hL:aa3 32 s.data.toList=L at hcl hcs
  generalize hR:aa2 L=R
  clear hemp
  go_enter Tryz.func112,Tryz.ntmps112
  go_wp2_with fail
  refine(ad3 32 s m _ hs hm).mono ?_
  rintro e w1 ⟨rfl,hst,hb1,hsz1⟩
  rw[hL] at hst⊢
  have hl1:w1.cell? ⟨b,0,none⟩=some (.int .i64 line):=(hb1.cell (p:=⟨b,0,none⟩) hbl).trans hl
  have HR:Hid (aa2 L=R):=hR
  clear hL hR hl
  go_wp2_with fail
  go_loopw [5,13] (fun v i wr=> ∃(k:Nat) (acc:List Int),k≤L.length∧i=.int .i64 k∧IOwn wr w1.heap.size v acc∧acc.length=k∧Hid (R=(aa2 (L.drop k)).map (acc++ ·))∧Below w1.heap.size w1 wr∧w1.heap.size≤wr.heap.size) (fun _ i _=>L.length-(intOf i).toNat)
  case atStart=>exact⟨0,[],by omega,rfl,IOwn.nil _ _,rfl,by show _=_;rw[←HR.out];simp,Below.refl _ _,Nat.le_refl _⟩
  case round=>
   obtain⟨k,acc,hk,rfl,hown,hal,HK,hbel,hsz⟩:=hrel
   have hbel0:Below w.heap.size w wr:=hb1.trans (hbel.mono hb1.size)
   by_cases hlt:k<L.length
   ·have hd:L.drop k=L[k]::L.drop (k+1):=List.drop_eq_getElem_cons hlt
    have hck:=(hst.below hbel (by omega)).cell hlt
    have hlr:wr.cell? ⟨b,0,none⟩=some (.int .i64 line):=(hbel.cell (p:=⟨b,0,none⟩) (by show b<_;have:=hb1.size;omega)).trans hl1
    have hkl:=hcs L[k] (List.getElem_mem hlt)
    have hszk:(bsz L[k]).size≤17179869184:=by simp[ByteArray.size];omega
    go_wp2_with fail
    refine(aiz b (bsz L[k]) line _ hszk hlr).mono ?_
    rintro e w2 ⟨rfl,rfl⟩
    rw[show (bsz L[k]).data.toList=L[k] by simp]
    cases hp:abe L[k] with
    | none=>
     have hRn:R=none:=by rw[HK.out,hd,aa2,hp];rfl
     simp only[amk]
     go_wp2
     subst hRn
     exact⟨rfl,rfl,hbel0⟩
    | some q=>
     have HK2:Hid (R=(aa2 (L.drop (k+1))).map ((acc++[q])++ ·)):=by
      show _=_
      rw[HK.out,hd,aa2,hp]
      cases aa2 (L.drop (k+1))<;>simp
     clear HK hd hp
     simp only[amk]
     go_wp2_with (first | (at_builtin;refine aao rfl _ _ rfl w1.heap.size _ acc rfl (World.ownsRow.alloc hown _) [q] ⟨wr.heap.size,0,none⟩ 1 rfl (aku q wr) (by simp;omega) (by simp;omega) ?_;intro a' c' w3 hown3 hgr3 _ _))
     have hb3:Below w1.heap.size wr w3:=((Below.refl _ wr).alloc hsz _).grown hgr3 (by simp;omega) (fun j hj=>(aan hown hj).1)
     have hs3:=hgr3.size
     go_wp2
     go_roundw
     case rel=>exact⟨k+1,acc++[q],by omega,by simp,by first | exact hown3 | (rw[hal] at hown3;exact hown3),by simp[hal],HK2,hbel.trans hb3,by simp at hs3;omega⟩
     case measure=>simp only[intOf];omega
   ·have hRs:R=some acc:=by rw[HK.out,List.drop_of_length_le (by omega)];simp[aa2]
    go_wp2
    go_ret
    subst hRs
    obtain⟨ax,cx,rfl⟩:=hown.val
    exact⟨_,_,_,rfl,hown.mono hb1.size,hbel0⟩
end Go.Proofs.YtfhpgmlfgjfknaaGreatDoor
