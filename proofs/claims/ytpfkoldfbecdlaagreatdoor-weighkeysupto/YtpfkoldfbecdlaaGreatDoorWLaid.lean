/- What the listed variables hold when a call begins, and the world's shape, give what the calls read of package-level variables (nothing is claimed here). -/
import Derived.Test.YtpfkoldfbecdlaaGreatDoorJ9
import Derived.Test.YtpfkoldfbecdlaaGreatDoorJ18
import Derived.Test.YtpfkoldfbecdlaaGreatDoorRows
import Derived.ProofKit
import Derived.LaidMore
import Derived.Lay
import Derived.Lib.LaidTab
import Derived.Shelf.Vars
import Derived.Handed
import Derived.OpenShut
import Derived.Stop.Joined
namespace Go.Proofs.YtpfkoldfbecdlaaGreatDoor
open Go.RowKit Go.Vf
def laidA:List (String×DataW Unit):=[("unicode/utf8.acceptRanges",Rows.laid_unicode_utf8_acceptRanges),("dovetail/utf.rows",Rows.laid_dovetail_utf_rows),("dovetail/utf.heads",Rows.laid_dovetail_utf_heads),("unicode/utf8.first",Rows.laid_unicode_utf8_first)]
theorem gRows:Tryz.prog.globalNamed "dovetail/utf.rows" =some 0:=by kernel_rfl
theorem gHeads:Tryz.prog.globalNamed "dovetail/utf.heads" =some 1:=by kernel_rfl
theorem tRows:(Tryz.prog.globals[0]?).map (·.type)=some 243:=by kernel_rfl
theorem tHeads:(Tryz.prog.globals[1]?).map (·.type)=some 244:=by kernel_rfl
theorem cells48:Tryz.prog.cellsOf 214=7:=by kernel_rfl
theorem cells5:Tryz.prog.cellsOf 5=1:=by kernel_rfl
theorem cellsL3:Tryz.prog.cellsOf 3=1:=by kernel_rfl
def rowD {H:Type}(k:Nat):DataW H:=.agg [.lit (.int .u8 ((aag k).first:Int)),.lit (.int .u8 ((aag k).last:Int)),.lit (.int .u8 ((aag k).low:Int)),.lit (.int .u8 ((aag k).high:Int)),.lit (.int .i64 ((aag k).size:Int)),.lit (.int .i64 ((aag k).least:Int)),.lit (.int .i64 ((aag k).most:Int))]
theorem rows_data {H:Type}:(Rows.laid_dovetail_utf_rows:DataW H)=.agg ((List.range 9).map rowD):=rfl
theorem heads_data {H:Type}:(Rows.laid_dovetail_utf_heads:DataW H)=.agg ((List.range 5).map fun k=>.lit (.int .u8 (adc k:Int))):=rfl
theorem ady {l:List Value}{k:Nat}{v:Value}(h:(l.drop k).take 1=[v]):l[k]? =some v:=by
 have h1:=congrArg (fun x:List Value=>x[0]?) h
 simpa using h1
def RowCells (cs:List Value)(k:Nat):Prop:=
 cs[0]? =some (.int .u8 ((aag k).first:Int))∧cs[1]? =some (.int .u8 ((aag k).last:Int))∧cs[2]? =some (.int .u8 ((aag k).low:Int))∧cs[3]? =some (.int .u8 ((aag k).high:Int))∧cs[4]? =some (.int .i64 ((aag k).size:Int))∧cs[5]? =some (.int .i64 ((aag k).least:Int))∧cs[6]? =some (.int .i64 ((aag k).most:Int))
section
variable {H:Type}{enc:TypeId×Value→H}{w:World}{base fuel:Nat}{spare:Nat→Bool}{held:Bool}{cs:List Value}{x:DataW H×List MemPlace}
theorem aez {t:TypeId}{k:IntKind}{n:Int}(ht:Tryz.prog.underlying t=some (.int k))(h:DataW.trod enc Tryz.prog w base spare held fuel t cs=some x)(hx:x.1=.lit (.int k n)):cs=[.int k n]:=by
 obtain⟨m,e1,e2,_⟩:=DataW.trod_int ht h
 rw[e2] at hx
 simp at hx
 rw[e1,hx]
theorem row_cells {k:Nat}(h:DataW.trod enc Tryz.prog w base spare held fuel 214 cs=some x)(hx:x.1=rowD k):
  RowCells cs k:=by
 obtain⟨xs,n,_,e,hl,hlen,hf⟩:=DataW.trod_struct Tryz.underlying214 h
 rw[e] at hx
 unfold rowD at hx
 simp only[DataW.agg.injEq] at hx
 match xs,hx with
 | [y0,y1,y2,y3,y4,y5,y6],hx=>
  simp only[List.map_cons,List.map_nil,List.cons.injEq,and_true] at hx
  obtain⟨g0,g1,g2,g3,g4,g5,g6⟩:=hx
  have q0:DataW.trod enc Tryz.prog w base spare held n 5 ((cs.drop 0).take (Tryz.prog.cellsOf 5))=some y0:=hf 0 _ rfl
  rw[cells5] at q0
  have q1:DataW.trod enc Tryz.prog w base spare held n 5 ((cs.drop 1).take (Tryz.prog.cellsOf 5))=some y1:=hf 1 _ rfl
  rw[cells5] at q1
  have q2:DataW.trod enc Tryz.prog w base spare held n 5 ((cs.drop 2).take (Tryz.prog.cellsOf 5))=some y2:=hf 2 _ rfl
  rw[cells5] at q2
  have q3:DataW.trod enc Tryz.prog w base spare held n 5 ((cs.drop 3).take (Tryz.prog.cellsOf 5))=some y3:=hf 3 _ rfl
  rw[cells5] at q3
  have q4:DataW.trod enc Tryz.prog w base spare held n 3 ((cs.drop 4).take (Tryz.prog.cellsOf 3))=some y4:=hf 4 _ rfl
  rw[cellsL3] at q4
  have q5:DataW.trod enc Tryz.prog w base spare held n 3 ((cs.drop 5).take (Tryz.prog.cellsOf 3))=some y5:=hf 5 _ rfl
  rw[cellsL3] at q5
  have q6:DataW.trod enc Tryz.prog w base spare held n 3 ((cs.drop 6).take (Tryz.prog.cellsOf 3))=some y6:=hf 6 _ rfl
  rw[cellsL3] at q6
  exact⟨ady (aez Tryz.underlying5 q0 g0),ady (aez Tryz.underlying5 q1 g1),ady (aez Tryz.underlying5 q2 g2),ady (aez Tryz.underlying5 q3 g3),ady (aez Tryz.underlying3 q4 g4),ady (aez Tryz.underlying3 q5 g5),ady (aez Tryz.underlying3 q6 g6)⟩
end
theorem tabs_of_laidA {W:World}(h:laidMetH Tryz.prog laidA W):Tabs W:=by
 rw[MakeChecks.laidMetH_plain _ _ _ (by kernel_rfl)] at h
 obtain⟨ps,⟨_,_,_,_,_,_,_,_,_,_,⟨g0,t0,cs0,f0,p0,q0,hg0,ht0,hv0,hd0,⟨g1,t1,cs1,f1,p1,q1,hg1,ht1,hv1,hd1,_,_⟩,_⟩,_⟩,_,_⟩:=h
 obtain rfl:=Option.some.inj (gRows.symm.trans hg0)
 obtain rfl:=Option.some.inj (gHeads.symm.trans hg1)
 obtain rfl:=Option.some.inj (tRows.symm.trans ht0)
 obtain rfl:=Option.some.inj (tHeads.symm.trans ht1)
 have c0:=World.var?_cell hg0 hv0
 have c1:=World.var?_cell hg1 hv1
 obtain⟨xs,m,_,e,hl,hn,hel⟩:=DataW.trod_array Tryz.underlying243 hd0
 obtain⟨ys,m1,_,e1,hl1,hn1,hel1⟩:=DataW.trod_array Tryz.underlying244 hd1
 have hrow: ∀k,k<9→ ∃y:DataW Unit×List MemPlace,xs[k]? =some y∧y.1=rowD k:=fun k hk=>by
  have e2:xs.map (·.1)=(List.range 9).map rowD:=by
   have:=congrArg Prod.fst e
   rw[rows_data] at this
   exact(DataW.agg.inj this).symm
  have e3:=congrArg (fun l:List (DataW Unit)=>l[k]?) e2
  simp only[List.getElem?_map,List.getElem?_range hk,Option.map_some] at e3
  obtain⟨y,h1,h2⟩:=Option.map_eq_some_iff.1 e3
  exact⟨y,h1,h2⟩
 have hhead: ∀k,k<5→ ∃y:DataW Unit×List MemPlace,ys[k]? =some y∧y.1=.lit (.int .u8 (adc k:Int)):=fun k hk=>by
  have e2:ys.map (·.1)=(List.range 5).map fun k=>.lit (.int .u8 (adc k:Int)):=by
   have:=congrArg Prod.fst e1
   rw[heads_data] at this
   exact(DataW.agg.inj this).symm
  have e3:=congrArg (fun l:List (DataW Unit)=>l[k]?) e2
  simp only[List.getElem?_map,List.getElem?_range hk,Option.map_some] at e3
  obtain⟨y,h1,h2⟩:=Option.map_eq_some_iff.1 e3
  exact⟨y,h1,h2⟩
 have key: ∀k,k<9→ ∀j v,((cs0.toList.drop (k*7)).take 7)[j]? =some v→W.cell? ⟨0,k*7+j,none⟩=some v:=fun k hk j v hv=>by
  rw[c0]
  simp only[List.getElem?_take,List.getElem?_drop] at hv
  simp at hv
  simpa using hv.2
 have rows: ∀k,k<9→RowCells ((cs0.toList.drop (k*7)).take 7) k:=fun k hk=>by
  obtain⟨y,h1,h2⟩:=hrow k hk
  have h3:=hel k hk
  rw[h1,cells48] at h3
  exact row_cells h3 h2
 refine⟨?_,fun k hk=>key k hk 0 _ (rows k hk).1,fun k hk=>key k hk 1 _ (rows k hk).2.1,fun k hk=>key k hk 2 _ (rows k hk).2.2.1,fun k hk=>key k hk 3 _ (rows k hk).2.2.2.1,fun k hk=>key k hk 4 _ (rows k hk).2.2.2.2.1,fun k hk=>key k hk 5 _ (rows k hk).2.2.2.2.2.1,fun k hk=>key k hk 6 _ (rows k hk).2.2.2.2.2.2,fun k hk=> ?_⟩
 ·simp only[World.var?,hg1,Option.bind_some] at hv1
  split at hv1
  ·rename_i h;have:=(Array.getElem?_eq_some_iff.1 h).1;omega
  ·cases hv1
 ·obtain⟨y,h1,h2⟩:=hhead k hk
  have h3:=hel1 k hk
  rw[h1,cells5,Nat.mul_one] at h3
  have:=ady (aez Tryz.underlying5 h3 h2)
  rw[c1]
  simpa using this
theorem glob_of_shape {W:World}(hs:W.ShapedOpen Tryz.prog):Glob W:=
 cell_of_shapedOpen_int (P:=Tryz.prog) (g:=2) (t:=3) (zero:= #[.int .i64 0]) hs (of_decide_eq_true (by kernel_rfl)) (by kernel_rfl) rfl (by kernel_rfl) (by kernel_rfl) Tryz.underlying3
section
variable {H:Type}{enc:TypeId×Value→H}
end
end Go.Proofs.YtpfkoldfbecdlaaGreatDoor
