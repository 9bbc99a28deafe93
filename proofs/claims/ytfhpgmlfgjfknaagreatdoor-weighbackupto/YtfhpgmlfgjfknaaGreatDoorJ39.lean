/- Contracts and lemmas (nothing is claimed here). -/
import Derived.LaidMore
import Derived.Lay
import Derived.Lib.LaidTab
import Derived.Shelf.Vars
import Derived.Handed
import Derived.Stop.Joined
import Derived.Test.YtfhpgmlfgjfknaaGreatDoorJ38
import Derived.Deep.RegionLaw
namespace Go.Proofs.YtfhpgmlfgjfknaaGreatDoor
open Go.RowKit Go.Vf
def a8u:List (String×DataW Unit):=[("unicode/utf8.acceptRanges",Rows.laid_unicode_utf8_acceptRanges),("dovetail/utf.rows",Rows.laid_dovetail_utf_rows),("dovetail/utf.heads",Rows.laid_dovetail_utf_heads),("unicode/utf8.first",Rows.laid_unicode_utf8_first)]
def aq3:List (String×DataW Unit):=[("math/bits.deBruijn32tab",Rows.laid_math_bits_deBruijn32tab),("math/bits.deBruijn64tab",Rows.laid_math_bits_deBruijn64tab),("internal/strconv.uint64pow10",Rows.laid_internal_strconv_uint64pow10),("unicode/utf8.acceptRanges",Rows.laid_unicode_utf8_acceptRanges),("dovetail/utf.rows",Rows.laid_dovetail_utf_rows),("dovetail/utf.heads",Rows.laid_dovetail_utf_heads),("unicode.CaseRanges",Rows.laid_unicode_CaseRanges),("unicode/utf8.first",Rows.laid_unicode_utf8_first)]
theorem gRows:Tryz.prog.globalNamed "dovetail/utf.rows" =some 0:=by kernel_rfl
theorem gHeads:Tryz.prog.globalNamed "dovetail/utf.heads" =some 1:=by kernel_rfl
theorem tRows:(Tryz.prog.globals[0]?).map (·.type)=some 148:=by kernel_rfl
theorem tHeads:(Tryz.prog.globals[1]?).map (·.type)=some 149:=by kernel_rfl
theorem a1q:Tryz.prog.cellsOf 103=7:=by kernel_rfl
theorem aof:Tryz.prog.cellsOf 5=1:=by kernel_rfl
theorem cells3:Tryz.prog.cellsOf 3=1:=by kernel_rfl
def a58 {H:Type}(k:Nat):DataW H:=.agg [.lit (.int .u8 ((aaf k).first:Int)),.lit (.int .u8 ((aaf k).last:Int)),.lit (.int .u8 ((aaf k).low:Int)),.lit (.int .u8 ((aaf k).high:Int)),.lit (.int .i64 ((aaf k).size:Int)),.lit (.int .i64 ((aaf k).least:Int)),.lit (.int .i64 ((aaf k).most:Int))]
theorem aqb {H:Type}:(Rows.laid_dovetail_utf_rows:DataW H)=.agg ((List.range 9).map a58):=rfl
theorem anw {H:Type}:(Rows.laid_dovetail_utf_heads:DataW H)=.agg ((List.range 5).map fun k=>.lit (.int .u8 (acq k:Int))):=rfl
theorem adk {l:List Value}{k:Nat}{v:Value}(h:(l.drop k).take 1=[v]):l[k]? =some v:=by
 have h1:=congrArg (fun x:List Value=>x[0]?) h
 simpa using h1
def apy (cs:List Value)(k:Nat):Prop:=
 cs[0]? =some (.int .u8 ((aaf k).first:Int))∧cs[1]? =some (.int .u8 ((aaf k).last:Int))∧cs[2]? =some (.int .u8 ((aaf k).low:Int))∧cs[3]? =some (.int .u8 ((aaf k).high:Int))∧cs[4]? =some (.int .i64 ((aaf k).size:Int))∧cs[5]? =some (.int .i64 ((aaf k).least:Int))∧cs[6]? =some (.int .i64 ((aaf k).most:Int))
section
variable {H:Type}{enc:TypeId×Value→H}{w:World}{base fuel:Nat}{spare:Nat→Bool}{held:Bool}{cs:List Value}{x:DataW H×List MemPlace}
theorem aeo {t:TypeId}{k:IntKind}{n:Int}(ht:Tryz.prog.underlying t=some (.int k))(h:DataW.trod enc Tryz.prog w base spare held fuel t cs=some x)(hx:x.1=.lit (.int k n)):cs=[.int k n]:=by
 obtain⟨m,e1,e2,_⟩:=DataW.trod_int ht h
 rw[e2] at hx
 simp at hx
 rw[e1,hx]
theorem aqd {k:Nat}(h:DataW.trod enc Tryz.prog w base spare held fuel 103 cs=some x)(hx:x.1=a58 k):
  apy cs k:=by
 obtain⟨xs,n,_,e,hl,hlen,hf⟩:=DataW.trod_struct Tryz.underlying103 h
 rw[e] at hx
 unfold a58 at hx
 simp only[DataW.agg.injEq] at hx
 match xs,hx with
 | [y0,y1,y2,y3,y4,y5,y6],hx=>
  simp only[List.map_cons,List.map_nil,List.cons.injEq,and_true] at hx
  obtain⟨g0,g1,g2,g3,g4,g5,g6⟩:=hx
  have q0:DataW.trod enc Tryz.prog w base spare held n 5 ((cs.drop 0).take (Tryz.prog.cellsOf 5))=some y0:=hf 0 _ rfl
  rw[aof] at q0
  have q1:DataW.trod enc Tryz.prog w base spare held n 5 ((cs.drop 1).take (Tryz.prog.cellsOf 5))=some y1:=hf 1 _ rfl
  rw[aof] at q1
  have q2:DataW.trod enc Tryz.prog w base spare held n 5 ((cs.drop 2).take (Tryz.prog.cellsOf 5))=some y2:=hf 2 _ rfl
  rw[aof] at q2
  have q3:DataW.trod enc Tryz.prog w base spare held n 5 ((cs.drop 3).take (Tryz.prog.cellsOf 5))=some y3:=hf 3 _ rfl
  rw[aof] at q3
  have q4:DataW.trod enc Tryz.prog w base spare held n 3 ((cs.drop 4).take (Tryz.prog.cellsOf 3))=some y4:=hf 4 _ rfl
  rw[cells3] at q4
  have q5:DataW.trod enc Tryz.prog w base spare held n 3 ((cs.drop 5).take (Tryz.prog.cellsOf 3))=some y5:=hf 5 _ rfl
  rw[cells3] at q5
  have q6:DataW.trod enc Tryz.prog w base spare held n 3 ((cs.drop 6).take (Tryz.prog.cellsOf 3))=some y6:=hf 6 _ rfl
  rw[cells3] at q6
  exact⟨adk (aeo Tryz.underlying5 q0 g0),adk (aeo Tryz.underlying5 q1 g1),adk (aeo Tryz.underlying5 q2 g2),adk (aeo Tryz.underlying5 q3 g3),adk (aeo Tryz.underlying3 q4 g4),adk (aeo Tryz.underlying3 q5 g5),adk (aeo Tryz.underlying3 q6 g6)⟩
end
theorem a2h {W:World}(h:laidMetH Tryz.prog a8u W):Tabs W:=by
 rw[MakeChecks.laidMetH_plain _ _ _ (by kernel_rfl)] at h
 obtain⟨ps,⟨_,_,_,_,_,_,_,_,_,_,⟨g0,t0,cs0,f0,p0,q0,hg0,ht0,hv0,hd0,⟨g1,t1,cs1,f1,p1,q1,hg1,ht1,hv1,hd1,_,_⟩,_⟩,_⟩,_,_⟩:=h
 obtain rfl:=Option.some.inj (gRows.symm.trans hg0)
 obtain rfl:=Option.some.inj (gHeads.symm.trans hg1)
 obtain rfl:=Option.some.inj (tRows.symm.trans ht0)
 obtain rfl:=Option.some.inj (tHeads.symm.trans ht1)
 have c0:=World.var?_cell hg0 hv0
 have c1:=World.var?_cell hg1 hv1
 obtain⟨xs,m,_,e,hl,hn,hel⟩:=DataW.trod_array Tryz.underlying148 hd0
 obtain⟨ys,m1,_,e1,hl1,hn1,hel1⟩:=DataW.trod_array Tryz.underlying149 hd1
 have hrow: ∀k,k<9→ ∃y:DataW Unit×List MemPlace,xs[k]? =some y∧y.1=a58 k:=fun k hk=>by
  have e2:xs.map (·.1)=(List.range 9).map a58:=by
   have:=congrArg Prod.fst e
   rw[aqb] at this
   exact(DataW.agg.inj this).symm
  have e3:=congrArg (fun l:List (DataW Unit)=>l[k]?) e2
  simp only[List.getElem?_map,List.getElem?_range hk,Option.map_some] at e3
  obtain⟨y,h1,h2⟩:=Option.map_eq_some_iff.1 e3
  exact⟨y,h1,h2⟩
 have hhead: ∀k,k<5→ ∃y:DataW Unit×List MemPlace,ys[k]? =some y∧y.1=.lit (.int .u8 (acq k:Int)):=fun k hk=>by
  have e2:ys.map (·.1)=(List.range 5).map fun k=>.lit (.int .u8 (acq k:Int)):=by
   have:=congrArg Prod.fst e1
   rw[anw] at this
   exact(DataW.agg.inj this).symm
  have e3:=congrArg (fun l:List (DataW Unit)=>l[k]?) e2
  simp only[List.getElem?_map,List.getElem?_range hk,Option.map_some] at e3
  obtain⟨y,h1,h2⟩:=Option.map_eq_some_iff.1 e3
  exact⟨y,h1,h2⟩
 have key: ∀k,k<9→ ∀j v,((cs0.toList.drop (k*7)).take 7)[j]? =some v→W.cell? ⟨0,k*7+j,none⟩=some v:=fun k hk j v hv=>by
  rw[c0]
  simp only[List.getElem?_take,List.getElem?_drop] at hv
  simp at hv
  simpa using hv.2
 have rows: ∀k,k<9→apy ((cs0.toList.drop (k*7)).take 7) k:=fun k hk=>by
  obtain⟨y,h1,h2⟩:=hrow k hk
  have h3:=hel k hk
  rw[h1,a1q] at h3
  exact aqd h3 h2
 refine⟨?_,fun k hk=>key k hk 0 _ (rows k hk).1,fun k hk=>key k hk 1 _ (rows k hk).2.1,fun k hk=>key k hk 2 _ (rows k hk).2.2.1,fun k hk=>key k hk 3 _ (rows k hk).2.2.2.1,fun k hk=>key k hk 4 _ (rows k hk).2.2.2.2.1,fun k hk=>key k hk 5 _ (rows k hk).2.2.2.2.2.1,fun k hk=>key k hk 6 _ (rows k hk).2.2.2.2.2.2,fun k hk=> ?_⟩
 ·simp only[World.var?,hg1,Option.bind_some] at hv1
  split at hv1
  ·rename_i h;have:=(Array.getElem?_eq_some_iff.1 h).1;omega
  ·cases hv1
 ·obtain⟨y,h1,h2⟩:=hhead k hk
  have h3:=hel1 k hk
  rw[h1,aof,Nat.mul_one] at h3
  have:=adk (aeo Tryz.underlying5 h3 h2)
  rw[c1]
  simpa using this
theorem aos {W:World}(h:laidMetH Tryz.prog aq3 W):Tabs W:=by
 rw[MakeChecks.laidMetH_plain _ _ _ (by kernel_rfl)] at h
 obtain⟨ps,⟨_,_,_,_,_,_,_,_,_,_,⟨_,_,_,_,_,_,_,_,_,_,⟨_,_,_,_,_,_,_,_,_,_,⟨_,_,_,_,_,_,_,_,_,_,⟨g0,t0,cs0,f0,p0,q0,hg0,ht0,hv0,hd0,⟨g1,t1,cs1,f1,p1,q1,hg1,ht1,hv1,hd1,_,_⟩,_⟩,_⟩,_⟩,_⟩,_⟩,_,_⟩:=h
 obtain rfl:=Option.some.inj (gRows.symm.trans hg0)
 obtain rfl:=Option.some.inj (gHeads.symm.trans hg1)
 obtain rfl:=Option.some.inj (tRows.symm.trans ht0)
 obtain rfl:=Option.some.inj (tHeads.symm.trans ht1)
 have c0:=World.var?_cell hg0 hv0
 have c1:=World.var?_cell hg1 hv1
 obtain⟨xs,m,_,e,hl,hn,hel⟩:=DataW.trod_array Tryz.underlying148 hd0
 obtain⟨ys,m1,_,e1,hl1,hn1,hel1⟩:=DataW.trod_array Tryz.underlying149 hd1
 have hrow: ∀k,k<9→ ∃y:DataW Unit×List MemPlace,xs[k]? =some y∧y.1=a58 k:=fun k hk=>by
  have e2:xs.map (·.1)=(List.range 9).map a58:=by
   have:=congrArg Prod.fst e
   rw[aqb] at this
   exact(DataW.agg.inj this).symm
  have e3:=congrArg (fun l:List (DataW Unit)=>l[k]?) e2
  simp only[List.getElem?_map,List.getElem?_range hk,Option.map_some] at e3
  obtain⟨y,h1,h2⟩:=Option.map_eq_some_iff.1 e3
  exact⟨y,h1,h2⟩
 have hhead: ∀k,k<5→ ∃y:DataW Unit×List MemPlace,ys[k]? =some y∧y.1=.lit (.int .u8 (acq k:Int)):=fun k hk=>by
  have e2:ys.map (·.1)=(List.range 5).map fun k=>.lit (.int .u8 (acq k:Int)):=by
   have:=congrArg Prod.fst e1
   rw[anw] at this
   exact(DataW.agg.inj this).symm
  have e3:=congrArg (fun l:List (DataW Unit)=>l[k]?) e2
  simp only[List.getElem?_map,List.getElem?_range hk,Option.map_some] at e3
  obtain⟨y,h1,h2⟩:=Option.map_eq_some_iff.1 e3
  exact⟨y,h1,h2⟩
 have key: ∀k,k<9→ ∀j v,((cs0.toList.drop (k*7)).take 7)[j]? =some v→W.cell? ⟨0,k*7+j,none⟩=some v:=fun k hk j v hv=>by
  rw[c0]
  simp only[List.getElem?_take,List.getElem?_drop] at hv
  simp at hv
  simpa using hv.2
 have rows: ∀k,k<9→apy ((cs0.toList.drop (k*7)).take 7) k:=fun k hk=>by
  obtain⟨y,h1,h2⟩:=hrow k hk
  have h3:=hel k hk
  rw[h1,a1q] at h3
  exact aqd h3 h2
 refine⟨?_,fun k hk=>key k hk 0 _ (rows k hk).1,fun k hk=>key k hk 1 _ (rows k hk).2.1,fun k hk=>key k hk 2 _ (rows k hk).2.2.1,fun k hk=>key k hk 3 _ (rows k hk).2.2.2.1,fun k hk=>key k hk 4 _ (rows k hk).2.2.2.2.1,fun k hk=>key k hk 5 _ (rows k hk).2.2.2.2.2.1,fun k hk=>key k hk 6 _ (rows k hk).2.2.2.2.2.2,fun k hk=> ?_⟩
 ·simp only[World.var?,hg1,Option.bind_some] at hv1
  split at hv1
  ·rename_i h;have:=(Array.getElem?_eq_some_iff.1 h).1;omega
  ·cases hv1
 ·obtain⟨y,h1,h2⟩:=hhead k hk
  have h3:=hel1 k hk
  rw[h1,aof,Nat.mul_one] at h3
  have:=adk (aeo Tryz.underlying5 h3 h2)
  rw[c1]
  simpa using this
theorem apn {W:World}(hs:W.ShapedOpen Tryz.prog):Glob W:=
 cell_of_shapedOpen_int (P:=Tryz.prog) (g:=2) (t:=3) (zero:= #[.int .i64 0]) hs (of_decide_eq_true (by kernel_rfl)) (by kernel_rfl) rfl (by kernel_rfl) (by kernel_rfl) Tryz.underlying3
section
variable {H:Type}{enc:TypeId×Value→H}
end
theorem az7 (os:Os)(args:Array Value):laidMetH Tryz.prog aq3 ((World.laidAll Tryz.prog os aq3).forCall (fun _ _=>0) ⟨#[],args,[]⟩).memory:=by
 rw[MakeChecks.laidMetH_plain _ _ _ (by kernel_rfl)]
 exact laidMet_laidAll _ (by kernel_rfl) (by kernel_rfl)
theorem aq2 (os:Os)(args:Array Value):((World.laidAll Tryz.prog os aq3).forCall (fun _ _=>0) ⟨#[],args,[]⟩).Shaped Tryz.prog:=World.shaped_of_ZipB (by kernel_rfl) (by kernel_rfl)
theorem gB64:Tryz.prog.globalNamed "math/bits.deBruijn64tab" =some 8:=by kernel_rfl
theorem gPow:Tryz.prog.globalNamed "internal/strconv.uint64pow10" =some 6:=by kernel_rfl
theorem tB64:(Tryz.prog.globals[8]?).map (·.type)=some 316:=by kernel_rfl
theorem tPow:(Tryz.prog.globals[6]?).map (·.type)=some 306:=by kernel_rfl
def b64Tab:List Int:=(match (Rows.laid_math_bits_deBruijn64tab:DataW Unit) with
 | .agg xs=>xs.map fun x=>match x with
  | .lit (.int _ z)=>z
  | _=>0
 | _=>[])
theorem a42:(Rows.laid_math_bits_deBruijn64tab:DataW Unit)=Lib.tabData .u8 b64Tab:=by kernel_rfl
theorem a2v:(Rows.laid_internal_strconv_uint64pow10:DataW Unit)=Lib.tabData .u64 Lib.pow10Tab:=by kernel_rfl
theorem asl {W:World}(h:laidMetH Tryz.prog aq3 W):Tb W W.heap.size:=by
 rw[MakeChecks.laidMetH_plain _ _ _ (by kernel_rfl)] at h
 obtain⟨ps,⟨g0,t0,cs0,f0,p0,q0,hg0,ht0,hv0,hd0,⟨g1,t1,cs1,f1,p1,q1,hg1,ht1,hv1,hd1,⟨g2,t2,cs2,f2,p2,q2,hg2,ht2,hv2,hd2,_,_⟩,_⟩,_⟩,_,_⟩:=h
 obtain rfl:=Option.some.inj (gB64.symm.trans hg1)
 obtain rfl:=Option.some.inj (gPow.symm.trans hg2)
 obtain rfl:=Option.some.inj (tB64.symm.trans ht1)
 obtain rfl:=Option.some.inj (tPow.symm.trans ht2)
 rw[a42] at hd1
 rw[a2v] at hd2
 have c1:=Lib.cells_of_tab Tryz.underlying316 Tryz.underlying5 (by kernel_rfl) (by kernel_rfl) hd1
 have c2:=Lib.cells_of_tab Tryz.underlying306 Tryz.underlying254 (by kernel_rfl) (by kernel_rfl) hd2
 have i1:Lib.TabIs Tryz.prog W "math/bits.deBruijn64tab" .u8 b64Tab:=by unfold Lib.TabIs;rw[hv1,←c1]
 have i2:Lib.TabIs Tryz.prog W "internal/strconv.uint64pow10" .u64 Lib.pow10Tab:=by unfold Lib.TabIs;rw[hv2,←c2]
 have k1:=i1.cell gB64 15 (of_decide_eq_true (by kernel_rfl))
 rw[show b64Tab.getD 15 0=4 by kernel_rfl] at k1
 exact⟨World.block_lt_of_cell? W _ k1,k1,Lib.tabBelow_of_tabIs i2⟩
end Go.Proofs.YtfhpgmlfgjfknaaGreatDoor
namespace Go.Proofs.YtfhpgmlfgjfknaaGreatDoor
open Go.ChangeShapes Go.WideShapes Go.ChangeAt Go.RowKit Go.Vf Go.Maps Go.Joins
def a6v (s:Int)(sh back:Bool)(a b x:ByteArray):Value:=.agg #[.int .i64 s,.bool sh,.bool back,.string a,.string b,.string x]
theorem a8h {α:Type}{cs:Array α}(h:cs.size=6): ∃a b c d e f,cs= #[a,b,c,d,e,f]:=by
 obtain⟨l⟩:=cs
 match l,h with
 | [a,b,c,d,e,f],_=>exact⟨a,b,c,d,e,f,rfl⟩
set_option maxRecDepth 100000 in
theorem ask {H:Type}{enc:TypeId×Value→H}{base:Nat}{W:World}(v:Value)(d:DataW H)(pl:List MemPlace)(hok:Value.okWide Tryz.prog W .any base 23 v)(h:DataW.Trod enc Tryz.prog W 0 (fun _=>true) true 23 v d pl)(hbk:Rows.uptoBulk d≤1048576):
  ∃m e:ByteArray,v=.agg #[.string m,.string e]∧m.size≤1048576∧e.size≤1048576:=by
 obtain⟨v0,v1,y0,y1,n,rfl,hd,_,h0,h1⟩:=open_agg2 Tryz.underlying23 (by kernel_rfl) (by kernel_rfl) hok h
 obtain⟨m,e0,q0,_⟩:=DataW.trod_string Tryz.underlying9 h0
 obtain⟨e,e1,q1,_⟩:=DataW.trod_string Tryz.underlying9 h1
 simp at e0 e1
 subst e0 e1 hd q0 q1
 simp only[Rows.uptoBulk,Rows.uptoBulkAll] at hbk
 refine⟨m,e,rfl,?_,?_⟩
 ·rw[Lib.size_eq];omega
 ·rw[Lib.size_eq];omega
theorem a2e:Tryz.prog.cellsOf 25=3:=by kernel_rfl
theorem a5s:Tryz.prog.cellsOf 9=1:=by kernel_rfl
theorem a5u:Tryz.prog.cellsOf 3=1:=by kernel_rfl
theorem a5t:Tryz.prog.cellsOf 4=1:=by kernel_rfl
theorem a2d:Tryz.prog.cellsOf 27=6:=by kernel_rfl
set_option maxRecDepth 100000 in
theorem a1s {H:Type}{enc:TypeId×Value→H}{base:Nat}{W:World}(v:Value)(d:DataW H)(pl:List MemPlace)(hok:Value.okWide Tryz.prog W .any base 27 v)(h:DataW.Trod enc Tryz.prog W 0 (fun _=>true) true 27 v d pl)(hbk:Rows.uptoBulk d≤1048576):
  ∃(s:Int) (sh back:Bool) (a b x:ByteArray),v=a6v s sh back a b x∧InI s∧a.size≤1048576∧b.size≤1048576∧x.size≤1048576:=by
 obtain⟨cs,rfl,hsz⟩:=okWide_struct Tryz.underlying27 hok
 obtain⟨c0,c1,c2,c3,c4,c5,rfl⟩:=a8h (hsz.trans a2d)
 obtain⟨fuel,hf⟩:=h
 obtain⟨y0,y1,y2,y3,n,hx,_,h0,h1,h2,h3⟩:=trod_struct4 Tryz.underlying27 hf
 simp[Value.cells,a2e,a5s] at h0 h1 h2 h3
 obtain⟨a,e1,q1,_⟩:=DataW.trod_string Tryz.underlying9 h1
 obtain⟨b,e2,q2,_⟩:=DataW.trod_string Tryz.underlying9 h2
 obtain⟨x,e3,q3,_⟩:=DataW.trod_string Tryz.underlying9 h3
 obtain⟨xs,n',_,_,_,hlen,hf0⟩:=DataW.trod_struct Tryz.underlying25 h0
 obtain⟨z0,z1,z2,rfl⟩: ∃z0 z1 z2,xs=[z0,z1,z2]:=by
  match xs,hlen with
  | [z0,z1,z2],_=>exact⟨z0,z1,z2,rfl⟩
 have g0:=hf0 0 _ rfl
 have g1:=hf0 1 _ rfl
 have g2:=hf0 2 _ rfl
 simp[a5u,a5t] at g0 g1 g2
 obtain⟨s,i0,_,hwf⟩:=DataW.trod_int Tryz.underlying3 g0
 obtain⟨sh,i1,_⟩:=DataW.trod_bool Tryz.underlying4 g1
 obtain⟨back,i2,_⟩:=DataW.trod_bool Tryz.underlying4 g2
 simp at i0 i1 i2 e1 e2 e3
 simp only[Prod.mk.injEq] at hx
 have hd:=hx.1
 subst i0 i1 i2 e1 e2 e3 hd q1 q2 q3
 simp only[Rows.uptoBulk,Rows.uptoBulkAll] at hbk
 refine⟨s,sh,back,a,b,x,rfl,?_,?_,?_,?_⟩
 ·have:=bounds_i64 hwf
  unfold InI
  omega
 ·rw[Lib.size_eq];omega
 ·rw[Lib.size_eq];omega
 ·rw[Lib.size_eq];omega
end Go.Proofs.YtfhpgmlfgjfknaaGreatDoor
namespace Go.Proofs.YtfhpgmlfgjfknaaGreatDoor
open Go.RowKit Go.Vf Go.Maps
def a86 (e:Ending):Prop:= ∃b,e=.returned (.bool b)
def Tb8 (w:World)(th:Bool)(dv _tv:Value):Prop:=th=false∨ ∃(t:List UInt8) (L:List Mk) (F:Int→List Int) (a:Option Addr) (n c:Nat),aaw t=.ok (L,F)∧(∀q,(aa4 F q).length≤57)∧dv=.slice a n c∧MIn w.heap.size w dv (aag L)
theorem Tb8.go {w w':World}{th:Bool}{dv tv:Value}(h:Tb8 w th dv tv)(hb:Below w.heap.size w w'):Tb8 w' th dv tv:=by
 rcases h with h | ⟨t,L,F,a,n,c,h1,h2,h3,h4⟩
 ·exact .inl h
 ·exact .inr ⟨t,L,F,a,n,c,h1,h2,h3,h4.go hb⟩
set_option maxHeartbeats 8000000 in
set_option maxRecDepth 20000 in
theorem avk (th:Bool)(da:Option Addr)(dn dc:Nat)(ta:Option Addr)(tn tc:Nat)(s:ByteArray)(hs:s.size≤4294967296)(w:World)(ht:Tb8 w th (.slice da dn dc) (.slice ta tn tc)):
  Calls Tryz.prog 24 #[.agg #[.bool th,.slice da dn dc,.slice ta tn tc],.string s,.int .i64 1000] w fun e w'=>a86 e∧Below w.heap.size w w':=by
 obtain⟨ps,rest,hsp,hps,hrest⟩:=ala s.data.toList
 have hb0:=(Below.refl w.heap.size w).alloc (Nat.le_refl _) (.cells #[.bool th,.slice da dn dc,.slice ta tn tc] 67)
 have hn0:=Blk.new w 67 #[.bool th,.slice da dn dc,.slice ta tn tc]
 have ht0:=ht.go hb0
 go_enter Tryz.func24,Tryz.ntmps24
 go_wp2_with fail
 generalize w.alloc (.cells #[.bool th,.slice da dn dc,.slice ta tn tc] 67)=w0 at hb0 hn0 ht0⊢
 refine(ao0 s hs ps rest hsp hps hrest w0).mono ?_
 rintro e w1 ⟨hp1,hb1⟩
 have hb01:=hb0.trans (hb1.mono hb0.size)
 have hn1:=hn0.below hb1 hn0.lt
 have HT1:Aside (Tb8 w1 th (.slice da dn dc) (.slice ta tn tc)):=ht0.go hb1
 have c0:w1.cell? ⟨w.heap.size,0,none⟩=some (.bool th):=hn1.cell 0
 cases th with
 | false=>
  rcases hp1 with ⟨hr0,v,rfl,_⟩ | ⟨hr0,rfl⟩
  ·go_wp2_with fail
   go_ret
   exact⟨⟨_,rfl⟩,hb01⟩
  ·go_wp2_with fail
   go_ret
   exact⟨⟨_,rfl⟩,hb01⟩
 | true=>
  rcases hp1 with ⟨hr0,v,rfl,hown⟩ | ⟨hr0,rfl⟩
  ·by_cases hlong:65536<s.size
   ·have hlz:decide ((65536:Int)<(s.size:Int))=true:=by simp;omega
    go_wp2_with fail
    go_ret
    exact⟨⟨_,rfl⟩,hb01⟩
   ·have hlz:decide ((65536:Int)<(s.size:Int))=false:=by simp;omega
    obtain⟨va,vc,rfl⟩:=hown.val
    have hpl:(ps.map fun p:Nat=>(p:Int)).length≤65536:=by
     have h1:=abw ps
     have h2:(adf ps++rest).length=s.size:=by rw[←hsp,←Lib.size_eq]
     rw[List.length_append] at h2
     rw[List.length_map]
     omega
    have HIN:Aside (Ints w1.heap.size w1 (.slice va (ps.map fun p:Nat=>(p:Int)).length vc) (ps.map fun p:Nat=>(p:Int))):=hown.ints
    generalize (ps.map fun p:Nat=>(p:Int))=zs at HIN hpl hown
    obtain⟨t,L,F,a',n',c',hld,h57,hdv,hmin⟩:=HT1.out.resolve_left (by decide)
    have HLD:Hid (aaw t=.ok (L,F)):=hld
    have H57:Hid (∀q,(aa4 F q).length≤57):=h57
    have HMI:Aside (MIn w1.heap.size w1 (.slice da dn dc) (aag L)):=hmin
    have hlt1:=hn1.lt
    clear hown hsp hps hrest hdv hmin hld h57 HT1
    generalize hzl:zs.length=zl at*
    have HZL:Hid (zs.length=zl):=hzl
    clear hzl
    go_wp2_with fail
    go_loopg [2,10,11] zl (fun g1 mv av iv wr=> ∃(mk al i:Nat),mv=.int .i64 mk∧av=.int .i64 al∧iv=.int .i64 i∧mk≤1000∧al≤262144∧i≤zl∧zl-i≤g1∧Aside (Below w1.heap.size w1 wr))
    case atStart=>exact⟨1000,0,0,rfl,rfl,rfl,by omega,by omega,by omega,by omega,Below.refl _ _⟩
    case round=>
     obtain⟨mk,al,i,rfl,rfl,rfl,hmk,hal,hi,hg1,HBW⟩:=hrel
     by_cases hlt:i<zl
     ·have hltz:(i:Int)<(zl:Int):=by omega
      have hlen:i<zs.length:=by rw[HZL.out];exact hlt
      obtain⟨bz,oz,rfl,hcz⟩:=ajv HIN.out hlen
      have hbz:bz<w1.heap.size:=World.block_lt_of_cell? w1 _ hcz
      generalize zs[i]=q at hcz
      obtain⟨wo,hwo⟩: ∃wo,wo=wr:=⟨_,rfl⟩
      subst hwo
      have y0:=(HBW.out.cell (p:=⟨bz,oz+i,none⟩) hbz).trans hcz
      have y1:wo.cell? ⟨w.heap.size,1,none⟩=some (.slice da dn dc):=(HBW.out.cell (p:=⟨w.heap.size,1,none⟩) hlt1).trans (hn1.cell 1)
      have HPC:Hid (∀X,Below wo.heap.size wo X→Calls Tryz.prog 55 #[.agg #[.slice da dn dc],.int .i64 q] X fun e w'=> ∃a n c,e=.returned (.slice a n c)∧(n≤57∧ ∃pp,Ints w'.heap.size w' (.slice a n c) pp∧pp.length=n)∧Below wo.heap.size wo w'):=fun X hX=>by
       refine(asr HLD.out q (H57.out q) (HMI.out.go (HBW.out.trans (hX.mono HBW.out.size)))).mono ?_
       rintro e w' ⟨a,n,c,rfl,h1,h2⟩
       obtain⟨_,_,e1⟩:=h1.val
       obtain rfl:n=_:=(Value.slice.inj e1).2.1
       exact⟨a,_,c,rfl,⟨H57.out q,_,h1.ints,rfl⟩,hX.trans (h2.mono hX.size)⟩
      have hbd:Below wo.heap.size wo wo.drew:=(Below.refl _ wo).drew
      clear hcz hbz
      go_upto_region 8 with fail
      go_cut [12] from 32 to 70 (fun v wx=> ∃a n c,v=.slice a n c∧(n≤57∧ ∃pp,Aside (Ints wx.heap.size wx (.slice a n c) pp)∧Hid (pp.length=n))∧Aside (Below wo.heap.size wo wx))
      case first=>
       go_region_with (first | (go_at_call 55;with_reducible refine(HPC.out _ (by assumption)).mono ?_;rintro e w3 ⟨a3,n3,c3,rfl,⟨hn3,pp,hi3,hl3⟩,hb3⟩))
       all_goals
        go_wp2_with fail
        go_meet
        exact⟨a3,n3,c3,rfl,⟨hn3,pp,hi3,hl3⟩,hb3⟩
      case rest=>
       obtain⟨a3,n3,c3,rfl,⟨hn3,pp,HI3,HL3⟩,HB3⟩:=hcut
       have hb1o:=HBW.out.trans (HB3.out.mono HBW.out.size)
       clear HPC y0 y1 hbd
       go_wp2_with fail
       go_loopg [2,13] n3 (fun g2 mv kv wr=> ∃(m k:Nat),mv=.int .i64 ((mk:Int)-(m:Int))∧kv=.int .i64 k∧m≤k∧k≤n3∧n3-k≤g2∧Aside (Below wc.heap.size wc wr))
       case atStart=>exact⟨0,0,by simp,rfl,by omega,by omega,by omega,Below.refl _ _⟩
       case round=>
        obtain⟨m,k,rfl,rfl,hmk2,hk,hg2,HBX⟩:=hrel
        by_cases hkl:k<n3
        ·have hklz:(k:Int)<(n3:Int):=by omega
         obtain⟨bp,op,rfl,hcp⟩:=ajv HI3.out (show k<pp.length by rw[HL3.out];exact hkl)
         have hbp:bp<wc.heap.size:=World.block_lt_of_cell? wc _ hcp
         generalize pp[k]'(by rw[HL3.out];exact hkl)=u at hcp
         have z0:=(HBX.out.cell (p:=⟨bp,op+k,none⟩) hbp).trans hcp
         have hb1w:=hb1o.trans (HBX.out.mono hb1o.size)
         have z1:wr.cell? ⟨w.heap.size,1,none⟩=some (.slice da dn dc):=(hb1w.cell (p:=⟨w.heap.size,1,none⟩) hlt1).trans (hn1.cell 1)
         have HCC:Hid (∀X,Below wr.heap.size wr X→Calls Tryz.prog 56 #[.agg #[.slice da dn dc],.int .i64 u] X fun e w'=> ∃cl:Int,e=.returned (.int .i64 cl)∧Below wr.heap.size wr w'):=fun X hX=>by
          refine(as1 HLD.out u (HMI.out.go (hb1w.trans (hX.mono hb1w.size)))).mono ?_
          rintro e w' ⟨rfl,h2⟩
          exact⟨_,rfl,hX.trans (h2.mono hX.size)⟩
         have hbd:Below wr.heap.size wr wr.drew:=(Below.refl _ wr).drew
         clear hcp hbp
         go_upto_region 13 with fail
         go_cut [62] from 49 to 64 (fun v wx=> ∃b,v=.bool b∧Aside (Below wr.heap.size wr wx))
         case first=>
          go_region_with (first | (go_at_call 56;with_reducible refine(HCC.out _ (by assumption)).mono ?_;rintro e w4 ⟨cl,rfl,hb4⟩))
          all_goals
           go_wp2_with fail
           go_meet
           exact⟨_,rfl,by assumption⟩
         case rest=>
          obtain⟨b,rfl,HB4⟩:=hcut
          have HBY:Aside (Below _ _ _):=HBX.out.trans (HB4.out.mono HBX.out.size)
          cases b with
          | true=>
           go_wp2
           go_roundg (n3-(k+1))
           case measure=>omega
           case rel=>exact⟨m+1,k+1,by first | rfl | (congr 1;omega) | go_num,by first | rfl | go_num,by omega,by omega,Nat.le_refl _,HBY⟩
          | false=>
           go_wp2
           go_roundg (n3-(k+1))
           case measure=>omega
           case rel=>exact⟨m,k+1,by first | rfl | go_num,by first | rfl | go_num,by omega,by omega,Nat.le_refl _,HBY⟩
        ·have hklz: ¬(k:Int)<(n3:Int):=by omega
         have HBF:Aside (Below _ _ _):=hb1o.trans (HBX.out.mono hb1o.size)
         by_cases hneg:(mk:Int)-(m:Int)<0
         ·have d1:decide ((mk:Int)-(m:Int)<0)=true:=by simpa using hneg
          go_wp2_with fail
          go_ret
          exact⟨⟨_,rfl⟩,hb01.trans (HBF.out.mono hb01.size)⟩
         ·have d1:decide ((mk:Int)-(m:Int)<0)=false:=by simpa using hneg
          by_cases hmany:(262144:Int)<(al:Int)+(n3:Int)
          ·have d2:decide ((262144:Int)<(al:Int)+(n3:Int))=true:=by simpa using hmany
           go_wp2_with fail
           go_ret
           exact⟨⟨_,rfl⟩,hb01.trans (HBF.out.mono hb01.size)⟩
          ·have d2:decide ((262144:Int)<(al:Int)+(n3:Int))=false:=by simpa using hmany
           go_wp2
           go_roundg (zl-(i+1))
           case measure=>omega
           case rel=>exact⟨mk-m,al+n3,i+1,by first | rfl | (congr 1;omega),by first | rfl | (congr 1;omega),by first | rfl | go_num,by omega,by omega,by omega,by omega,HBF⟩
     ·have hltz: ¬(i:Int)<(zl:Int):=by omega
      go_wp2_with fail
      go_ret
      exact⟨⟨_,rfl⟩,hb01.trans (HBW.out.mono hb01.size)⟩
  ·go_wp2_with fail
   go_ret
   exact⟨⟨_,rfl⟩,hb01⟩
set_option maxHeartbeats 4000000 in
set_option maxRecDepth 20000 in
theorem am5 (m e s:ByteArray)(hm:m.size≤281474976710656)(he:e.size≤281474976710656)(hs:s.size≤4294967296)(h57: ∀L F,aaw m.data.toList=.ok (L,F)→ ∀q,(aa4 F q).length≤57)(w:World):
  Calls Tryz.prog 11 #[.agg #[.string m,.string e],.string s] w fun e w'=>a86 e∧Below w.heap.size w w':=by
 have hb0:=(Below.refl w.heap.size w).alloc (Nat.le_refl _) (.cells #[.string m,.string e] 23)
 have hn0:=Blk.new w 23 #[.string m,.string e]
 have c0:(w.alloc (.cells #[.string m,.string e] 23)).cell? ⟨w.heap.size,0,none⟩=some (.string m):=hn0.cell 0
 have c1:(w.alloc (.cells #[.string m,.string e] 23)).cell? ⟨w.heap.size,1,none⟩=some (.string e):=hn0.cell 1
 go_enter Tryz.func11,Tryz.ntmps11
 go_wp2_with fail
 generalize w.alloc (.cells #[.string m,.string e] 23)=w0 at hb0 hn0 c0 c1⊢
 refine(az2 m e hm he w0).mono ?_
 rintro r w1 ⟨hb1,⟨why,which,line,hl,rfl⟩ | ⟨L,F,E,l,da,dn,dc,ta,tn,tc,hl,hR,hri,hpe,rfl,hD,hN⟩⟩
 ·clear c0 c1
  have hb2:=hb1.alloc hb1.size (.cells #[.bool false,.slice none 0 0,.slice none 0 0] 67)
  have hn2:=Blk.new w1 67 #[.bool false,.slice none 0 0,.slice none 0 0]
  have hb02:=hb0.trans (hb2.mono hb0.size)
  go_upto_region 2 with fail
  generalize w1.alloc (.cells #[.bool false,.slice none 0 0,.slice none 0 0] 67)=w2 at hb2 hn2 hb02⊢
  generalize w1.heap.size=DB at hn2⊢
  have c0:w2.cell? ⟨DB,0,none⟩=some (.bool false):=hn2.cell 0
  have c1:w2.cell? ⟨DB,1,none⟩=some (.slice none 0 0):=hn2.cell 1
  have c2:w2.cell? ⟨DB,2,none⟩=some (.slice none 0 0):=hn2.cell 2
  go_wp2_with fail
  refine(avk false none 0 0 none 0 0 s hs w2 (.inl rfl)).mono ?_
  rintro _ w3 ⟨⟨b,rfl⟩,hb3⟩
  go_wp2_with fail
  go_ret
  exact⟨⟨_,rfl⟩,hb02.trans (hb3.mono hb02.size)⟩
 ·clear c0 c1
  have hb2':=(Below.refl w1.heap.size w1).alloc (Nat.le_refl _) (.cells #[.bool true,.slice da dn dc,.slice ta tn tc] 67)
  have hb2:=hb1.alloc hb1.size (.cells #[.bool true,.slice da dn dc,.slice ta tn tc] 67)
  have hn2:=Blk.new w1 67 #[.bool true,.slice da dn dc,.slice ta tn tc]
  have hb02:=hb0.trans (hb2.mono hb0.size)
  have HD:Aside (MIn (w1.alloc (.cells #[.bool true,.slice da dn dc,.slice ta tn tc] 67)).heap.size (w1.alloc (.cells #[.bool true,.slice da dn dc,.slice ta tn tc] 67)) (.slice da dn dc) (aag L)):=hD.go hb2'
  clear hD hN hl
  go_upto_region 2 with fail
  generalize w1.alloc (.cells #[.bool true,.slice da dn dc,.slice ta tn tc] 67)=w2 at hb2 hn2 hb02 HD⊢
  generalize w1.heap.size=DB at hn2⊢
  have c0:w2.cell? ⟨DB,0,none⟩=some (.bool true):=hn2.cell 0
  have c1:w2.cell? ⟨DB,1,none⟩=some (.slice da dn dc):=hn2.cell 1
  have c2:w2.cell? ⟨DB,2,none⟩=some (.slice ta tn tc):=hn2.cell 2
  go_wp2_with fail
  refine(avk true da dn dc ta tn tc s hs w2 (.inr ⟨_,L,F,da,dn,dc,hR,h57 L F hR,rfl,HD.out⟩)).mono ?_
  rintro _ w3 ⟨⟨b,rfl⟩,hb3⟩
  go_wp2_with fail
  go_ret
  exact⟨⟨_,rfl⟩,hb02.trans (hb3.mono hb02.size)⟩
theorem a2t {s:Int}{sh:Bool}(h:afh s sh=true):1≤s∧s≤4:=by
 unfold afh at h
 simp only[Bool.and_eq_true,decide_eq_true_eq] at h
 obtain⟨h1,h2⟩:=h
 split at h2<;>omega
structure Spelt (L:List Mk)(F:Int→List Int)(txt:ByteArray)(ps:List Nat)(rest:List UInt8)(X:List Int):Prop where
 split:txt.data.toList=adf ps++rest
 pts: ∀p∈ps,ajh p
 rest:rest=[]∨ai2 rest
 form:Formed L F (ps.map fun p:Nat=>(p:Int)) X
theorem ap9 {t:List UInt8}{L:List Mk}{F:Int→List Int}(hm:aaw t=.ok (L,F))(txt:ByteArray): ∃ps rest X,Spelt L F txt ps rest X:=by
 obtain⟨ps,rest,hsp,hps,hrest⟩:=ala txt.data.toList
 obtain⟨X,hX,hXl,hXm⟩:=at8 (fun x=>(apg hm x).1) (abv F (ps.map fun p:Nat=>(p:Int)))
 exact⟨ps,rest,X,hsp,hps,hrest,hX,hXm,hXl⟩
theorem Spelt.len {L:List Mk}{F:Int→List Int}{txt:ByteArray}{ps:List Nat}{rest:List UInt8}{X:List Int}(h:Spelt L F txt ps rest X):ps.length≤txt.size:=by
 have h1:=abw ps
 have h2:(adf ps++rest).length=txt.size:=by rw[←h.split,←Lib.size_eq]
 rw[List.length_append] at h2
 omega
theorem Spelt.xlen {w:World}{bd:Nat}{L:List Mk}{F:Int→List Int}{txt:ByteArray}{ps:List Nat}{rest:List UInt8}{X:List Int}(h:Spelt L F txt ps rest X)(hd:DataAt w bd L F):X.length≤57*ps.length:=avu hd h.form _ (by rw[List.length_map];exact Nat.le_refl _)
structure WelF (b bd T:Nat)(L:List Mk)(F:Int→List Int)(E:List Ent)(s:Int)(sh back:Bool)(txt:ByteArray)(es:List El)(er:Int):Prop where
 why:er=0∨er=1∨er=2∨er=30
 rg:er=0→1≤s∧s≤4
 ok: ∀e∈es,av6 e
 few:es.length≤60000000
 call: ∀(w:World),TbAt w b bd T L F E→Tabs w→ ∀W,Below w.heap.size w W→Calls Tryz.prog 25 #[.pointer (some ⟨b,0,none⟩),ax8 s sh back,.string txt] W fun e w'=>aom es er W e w'
def a8w (s:Int)(sh back:Bool)(es:List El)(er:Int):ByteArray:=if er=0 then bs (aq4 s.toNat sh back es) else ⟨#[]⟩
def a8l (s:Int)(sh back:Bool)(xs ys:List El)(ex ey:Int):Int:=if ex=0∧ey=0 then amx sh back xs ys (List.range s.toNat) else 0
def a8j (ex ey:Int):Int:=if ex=0 then ey else ex
section
variable {b bd T:Nat}{L:List Mk}{F:Int→List Int}{E:List Ent}{s:Int}{sh back:Bool}{ta tb:ByteArray}{xs ys:List El}{ex ey:Int}{w:World}
theorem a7u (h:WelF b bd T L F E s sh back ta xs ex)(ht:TbAt w b bd T L F E)(htb:Tabs w):Calls Tryz.prog 12 #[.pointer (some ⟨b,0,none⟩),ax8 s sh back,.string ta] w fun e w'=>e=.returned (.tuple #[.string (a8w s sh back xs ex),.int .i64 ex])∧Below w.heap.size w w':=by
 refine(apj h.ok h.few h.rg (h.call w ht htb)).mono ?_
 rintro e w' ⟨hb,⟨rfl,rfl⟩ | ⟨h0,rfl⟩⟩
 ·exact⟨by simp[a8w],hb⟩
 ·exact⟨by simp[a8w,h0],hb⟩
theorem a8g (h:WelF b bd T L F E s sh back ta xs ex)(h':WelF b bd T L F E s sh back tb ys ey)(ht:TbAt w b bd T L F E)(htb:Tabs w):Calls Tryz.prog 13 #[.pointer (some ⟨b,0,none⟩),ax8 s sh back,.string ta,.string tb] w fun e w'=>e=.returned (.tuple #[.int .i64 (a8l s sh back xs ys ex ey),.int .i64 (a8j ex ey)])∧Below w.heap.size w w':=by
 refine(aj6 h.ok h'.ok h.few h'.few h.rg (h.call w ht htb) (h'.call w ht htb)).mono ?_
 rintro e w' ⟨hb,⟨rfl,rfl,rfl⟩ | ⟨h0,rfl⟩ | ⟨rfl,h0,rfl⟩⟩
 ·exact⟨by simp[a8l,a8j],hb⟩
 ·exact⟨by simp[a8l,a8j,h0],hb⟩
 ·exact⟨by simp[a8l,a8j,h0],hb⟩
end
end Go.Proofs.YtfhpgmlfgjfknaaGreatDoor
