/- Contracts and lemmas (nothing is claimed here). -/
import Derived.Test.YtfhpgmlfgjfknaaGreatDoorJ30
import Derived.Laws.EntriesVeiled
namespace Go.Proofs.YtfhpgmlfgjfknaaGreatDoor
open Go.RowKit Go.Vf Go.Shelf
attribute [local go_sem] Oper.semAt_some
theorem aqm {W w1:World}{n₁ B:Nat}{v v':Value}{k m:Nat}{xs ys:List Value}{tmp:Obj}
  (hv:Boxed W B 46 v) (hB:B<n₁) (hrow:W.ownsRow n₁ 3 1 v k xs) (hn₁:n₁≤W.heap.size)
  (hown':w1.ownsRow n₁ 3 1 v' m ys) (hgrow:(W.alloc tmp).grownBy w1 v.ownBlock):
  Boxed w1 B 46 v∧Boxed (w1.setCell ⟨B,0,none⟩ v') B 46 v'∧(w1.setCell ⟨B,0,none⟩ v').ownsRow n₁ 3 1 v' m ys∧KeepsOthers W (w1.setCell ⟨B,0,none⟩ v')∧Below B W (w1.setCell ⟨B,0,none⟩ v')∧
   (∀j t cs,t=103∨t=9→Blk W j t cs→Blk (w1.setCell ⟨B,0,none⟩ v') j t cs)∧n₁≤(w1.setCell ⟨B,0,none⟩ v').heap.size:=by
 have hkeep: ∀(j:Nat) (t:TypeId) (cs:Array Value),some j≠v.ownBlock→Blk W j t cs→Blk w1 j t cs:=fun j t cs hne hj=>
  (hgrow.block j (by have:=hj.lt;simp;omega) hne).trans ((Below.heap_alloc W tmp j hj.lt).trans hj)
 have hv1:Boxed w1 B 46 v:=hkeep B 46 #[v] (fun e=>by have:=(aan hrow e.symm).1;omega) hv
 have hne:v'.ownBlock≠some B:=fun e=>by have:=(aan hown' e).1;omega
 refine⟨hv1,hv1.set v',hown'.kept (grownBy_setCell' w1 B v') (.inr hne),?_,?_,fun j t cs ht hj=> ?_,?_⟩
 ·refine((KeepsOthers.alloc W tmp).trans (KeepsOthers.of_grownBy hgrow fun j o ej hj=> ?_)).trans (KeepsOthers.setCell _ _ _)
  obtain⟨_,cs,f,h3⟩:=aan (hrow.alloc tmp) ej
  rw[h3] at hj;cases hj;rfl
 ·refine(((Below.refl B W).alloc (by omega) tmp).grown hgrow (by simp;omega) fun j ej=> ?_).setCell (p:=⟨B,0,none⟩) (Nat.le_refl _) v'
  have:=(aan hrow ej).1
  omega
 ·have hjB:j≠B:=by
   rintro rfl
   have:=(show W.heap[j]? =_ from hj).symm.trans hv
   simp only[Option.some.injEq,Obj.cells.injEq] at this
   have h25:=this.2.1
   rcases ht with rfl | rfl<;>cases h25
  have h1:Blk w1 j t cs:=hkeep j t cs (fun e=>by
   obtain⟨_,cs',f,h3⟩:=aan hrow e.symm
   have:=(show W.heap[j]? =_ from hj).symm.trans h3
   simp only[Option.some.injEq,Obj.cells.injEq] at this
   have h3:=this.2.1
   rcases ht with rfl | rfl<;>cases h3) hj
  exact(Below.heap_setCell w1 ⟨B,0,none⟩ v' j hjB).trans h1
 ·have:=hgrow.size
  simp at this⊢
  omega
theorem ae9 (W:World)(t:TypeId)(v:Value)(B:Nat)(hB:B=W.heap.size):Boxed (W.alloc (.cells #[v] t)) B t v:=by subst hB;exact Boxed.new W t v
def a14 (ps:List Nat)(rest:List UInt8)(w:World)(e:Ending)(w':World):Prop:=
 (rest=[]∧ ∃v,e=.returned (.tuple #[v,.int .i64 0,.int .i64 0])∧IOwn w' w.heap.size v (ps.map fun p:Nat=>(p:Int)))∨
 (rest≠ []∧e=.returned (.tuple #[.slice none 0 0,.int .i64 30,.int .i64 ((adf ps).length:Int)]))
set_option maxRecDepth 100000 in
set_option maxHeartbeats 2000000 in
theorem awu (s:ByteArray)(hsz:s.size≤4294967296)(ps:List Nat)(rest:List UInt8)(hs:s.data.toList=adf ps++rest)(hps: ∀p∈ps,ajh p)(hrest:rest=[]∨ai2 rest)(w:World)(ht:Tabs w):
  Calls Tryz.prog 18 #[.string s] w fun e w'=>a14 ps rest w e w'∧Below w.heap.size w w':=by
 obtain⟨i0,hi,hz0,hz1,hz2⟩:=info_parts at1
 have hN:(full ps rest).length≤s.size:=by rw[Lib.size_eq,hs];exact at7 _ _
 refine(callsIn_wide (n:=3)).1 ?_
 refine callsIn_of_wp_marks Tryz.func18 rfl trivial ?_ rfl
 simp only[Tryz.ntmps18,List.size_toArray,List.length_cons,List.length_nil,Nat.reduceAdd,Nat.reduceSub,Array.replicate_succ,Array.replicate_zero,List.push_toArray,List.append_toArray,List.nil_append,List.cons_append]
 gi_wp2
 refine⟨trivial,(a4v _ s _).mono ?_⟩
 rintro e w' ⟨rfl,rfl⟩
 gi_wp2
 obtain⟨h,hh⟩: ∃h,h=w.heap.size:=⟨_,rfl⟩
 obtain⟨W0,hW0⟩: ∃W0,W0=((((w.alloc (.cells #[.slice none 0 0] 46)).alloc (.cells #[.int .i64 0] 29)).alloc (.cells #[.int .i64 0] 3)).alloc (.cells #[.slice none 0 0] 46)).alloc (.cells #[.string s] 9):=⟨_,rfl⟩
 have hsz0:W0.heap.size=h+5:=by rw[hW0,hh];simp
 have b0:Boxed W0 h 46 (.slice none 0 0):=by rw[hW0,hh];exact((((ae9 w 46 (.slice none 0 0) _ rfl).alloc _).alloc _).alloc _).alloc _
 have b1:Boxed W0 (h+1) 29 (.int .i64 0):=by rw[hW0,hh];exact(((ae9 (w.alloc _) 29 (.int .i64 0) _ (by simp)).alloc _).alloc _).alloc _
 have b2:Boxed W0 (h+1+1) 3 (.int .i64 0):=by rw[hW0,hh];exact((ae9 ((w.alloc _).alloc _) 3 (.int .i64 0) _ (by simp)).alloc _).alloc _
 have b3:Boxed W0 (h+1+1+1) 46 (.slice none 0 0):=by rw[hW0,hh];exact(ae9 (((w.alloc _).alloc _).alloc _) 46 (.slice none 0 0) _ (by simp)).alloc _
 have b4:Blk W0 (h+1+1+1+1) 9 #[.string s]:=by rw[hW0,hh];exact ae9 ((((w.alloc _).alloc _).alloc _).alloc _) 9 (.string s) _ (by simp)
 have hB0:Below h w W0:=by
  rw[hW0,hh]
  exact(((((Below.refl _ w).alloc (Nat.le_refl _) _).alloc (by simp) _).alloc (by simp;omega) _).alloc (by simp;omega) _).alloc (by simp;omega) _
 rw[←hW0,←hh]
 have h2h:2≤h:=by rw[hh];exact ht.size
 have ht0:Tabs W0:=ht.below h2h hB0
 have HH:Hid (h=w.heap.size):=hh
 have HS:Hid (s.data.toList=adf ps++rest):=hs
 clear hh hs hW0
 refine wpIn_rangeFunc_ownG (F:=Fence.wide) rfl (by decide) (gf:=69) (lb:= #[.pointer (some ⟨h+1+1+1+1,0,none⟩)]) rfl trivial (enters_of Tryz.func69 (by kernel_rfl) rfl)
  (aul (3-1) (by decide) (h+1+1+1+1) h h2h s hsz ps rest HS.out hps hrest _ (by omega) b4 ht0) Kpt.trans (Kpt.putObj (by omega)) (Below.refl _ _) (fun _=>rfl)
  (fun pre W=>(∀p∈pre,p.2≠ -1)∧(∃v,Boxed W (h+1+1+1) 46 v∧W.ownsRow (h+5) 3 1 v pre.length ((pre.map (·.2)).map (Value.int .i64))∧True)∧Boxed W h 46 (.slice none 0 0)∧Boxed W (h+1) 29 (.int .i64 0)∧Boxed W (h+1+1) 3 (.int .i64 0)∧(Below h w W∧Below h W0 W))
  (fun c pre W=>(c=.ret∧ ∃ini last,pre=ini++[last]∧last.2= -1∧W.cell? ⟨h,0,none⟩=some (.slice none 0 0)∧W.cell? ⟨h+1,0,none⟩=some (.int .i64 30)∧W.cell? ⟨h+1+1,0,none⟩=some (.int .i64 (last.1:Int)))∧Below h w W)
  (OwnFrom.and (ownFrom_pure _ _) (OwnFrom.and (Own.from (holdsRow_own (h+5) (h+1+1+1) 46 3 1 (fun pre:List (Nat×Int)=>pre.length) (fun pre=>(pre.map (·.2)).map (Value.int .i64)) (fun _ _=>True)) _)
   (OwnFrom.and (Own.from (boxed_own _ _ _) _) (OwnFrom.and (Own.from (boxed_own _ _ _) _) (OwnFrom.and (Own.from (boxed_own _ _ _) _) (OwnFrom.and (ownFrom_below (by rw[HH.out];exact Nat.le_refl _) (by omega)) (ownFrom_below (by omega) (by omega))))))))
  (fun c=>OwnFrom.and (Own.from (fun s A B row hs hg hr=>by obtain⟨hc,ini,last,e1,e2,e3,e4,e5⟩:=hs;exact⟨hc,ini,last,e1,e2,cell_kept e3 hg hr,cell_kept e4 hg hr,cell_kept e5 hg hr⟩) _) (ownFrom_below (by rw[HH.out];exact Nat.le_refl _) (by omega)))
  ⟨by simp,⟨_,b3,World.ownsRow_nil _ _ _ _,trivial⟩,b0,b1,b2,hB0,Below.refl _ _⟩
  (fun x=> {tmps:= #[.string s,undef,.pointer (some ⟨h,0,none⟩),.pointer (some ⟨h+1,0,none⟩),.pointer (some ⟨h+1+1,0,none⟩),.pointer (some ⟨h+1+1+1,0,none⟩),.int .i64 (x.1:Int),.int .i64 x.2,.string s,.func (.func 69) #[] #[.pointer (some ⟨h+1+1+1+1,0,none⟩)],.int .i64 (x.1:Int),.int .i64 x.2,undef,undef,undef,undef,undef,undef,undef,undef],defers:=[]}) ?assign ?body ?done ?stop
 case assign=>
  intro l x W K hK
  gi_wp2
  exact hK
 case body=>
  rintro l pre x W ⟨hp,⟨v,hv,hrow,_⟩,x0,x1,x2,hB,hB2⟩ hlt
  have hc:=hv.cell
  have c0:=x0.cell
  have c1:=x1.cell
  have c2:=x2.cell
  have f0:=x0.frozen
  have f1:=x1.frozen
  have f2:=x2.frozen
  have hW5:h+5≤W.heap.size:=by have:=hB2.size;omega
  gi_wp2_with (gi_at_builtin;refine wpListIn_append_own _ rfl _ _ 46 rfl (h+5) 3 i0 (.int .i64 0) 1 8 Tryz.underlying46 hi hz0 hz1 hz2 rfl (by decide) _ _ _ rfl (hrow.alloc _) ⟨W.heap.size,0,none⟩ 1 1 [.int .i64 x.2] rfl rfl (cell_one_new _ _ _) (by simp[Value.oneCell']) (by unfold maxLen;omega) (by omega) (by simp;omega) ?_;intro v' w1 hown' hgrow _;obtain⟨g',cap',rfl⟩:=ownsRow_succ hown';obtain⟨hv1,hv2,hr2,hk2,hb2,hkp2,_⟩:=aqm hv (by omega) hrow hW5 hown' hgrow;have hc1:=hv1.cell;have hf1:=hv1.frozen)
  ·rename_i hx
   have hx:x.2= -1:=eq_of_beq hx
   have y0:=((x0.set (.slice none 0 0)).other (B':=h+1) (by omega) (.int .i64 30)).other (B':=h+1+1) (by omega) (.int .i64 (x.1:Int))
   have y1:=((x1.other (B':=h) (by omega) (.slice none 0 0)).set (.int .i64 30)).other (B':=h+1+1) (by omega) (.int .i64 (x.1:Int))
   have y2:=((x2.other (B':=h) (by omega) (.slice none 0 0)).other (B':=h+1) (by omega) (.int .i64 30)).set (.int .i64 (x.1:Int))
   exact⟨(((KeepsOthers.setCell _ _ _).trans (KeepsOthers.setCell _ _ _)).trans (KeepsOthers.setCell _ _ _)).from _,⟨rfl,pre,x,rfl,hx,y0.cell,y1.cell,y2.cell⟩,
    ((hB.setCell (p:=⟨h,0,none⟩) (Nat.le_refl _) _).setCell (p:=⟨h+1,0,none⟩) (by show h≤h+1;omega) _).setCell (p:=⟨h+1+1,0,none⟩) (by show h≤h+1+1;omega) _⟩
  ·have hx: ¬x.2= -1:=by
    intro h
    have:(x.2== -1)=false:=by first | assumption | (simp_all)
    rw[h] at this
    exact absurd this (by decide)
   have hb3:=hb2.mono (show h≤h+1+1+1 by omega)
   exact⟨hk2.from _,⟨hb3,hkp2⟩,fun p hp'=>(List.mem_append.1 hp').elim (hp p) (fun e=>by simp at e;subst e;exact hx),⟨_,hv2,by simpa using hr2,trivial⟩,
    (hb2.block h (by omega)).trans x0,(hb2.block (h+1) (by omega)).trans x1,(hb2.block (h+1+1) (by omega)).trans x2,hB.trans hb3,hB2.trans hb3⟩
 case done=>
  rintro D ys W hD rfl ⟨hne,⟨v,hv,hrow,_⟩,x0,x1,x2,hB,hB2⟩ hK
  have hr:rest=[]:=Classical.byContradiction fun h=>by
   rw[aly _ h] at hne
   exact hne _ (List.mem_append.2 (.inr (List.mem_singleton.2 rfl))) rfl
  have hrow2:W.ownsRow (h+5) 3 1 v (ps.map fun p:Nat=>(p:Int)).length ((ps.map fun p:Nat=>(p:Int)).map (Value.int .i64)):=by
   have e:(full ps rest).map (·.2)=ps.map fun p:Nat=>(p:Int):=by rw[hr,avs,a5c]
   have e2:(full ps rest).length=(ps.map fun p:Nat=>(p:Int)).length:=by rw[←e,List.length_map]
   rw[e,e2] at hrow
   exact hrow
  have hv0: ∃a len cap,v=.slice a len cap:=by
   rcases hrow.2 with ⟨rfl,_⟩ | ⟨g,cap,cur,rfl,_⟩
   ·exact⟨_,_,_,rfl⟩
   ·exact⟨_,_,_,rfl⟩
  have hne5: ∀B,B<h+5→v.ownBlock≠some B:=fun B hlt e=>by have:=(aan hrow2 e).1;omega
  obtain⟨zs,hzs⟩: ∃zs,zs=ps.map fun p:Nat=>(p:Int):=⟨_,rfl⟩
  rw[←hzs] at hrow2
  have HZ:Hid (zs=ps.map fun p:Nat=>(p:Int)):=hzs
  clear hzs hrow
  obtain⟨a,len,cap,rfl⟩:=hv0
  have y0:=((x0.set (.slice a len cap)).other (B':=h+1) (by omega) (.int .i64 0)).other (B':=h+1+1) (by omega) (.int .i64 0)
  have y1:=((x1.other (B':=h) (by omega) (.slice a len cap)).set (.int .i64 0)).other (B':=h+1+1) (by omega) (.int .i64 0)
  have y2:=((x2.other (B':=h) (by omega) (.slice a len cap)).other (B':=h+1) (by omega) (.int .i64 0)).set (.int .i64 0)
  have hrow3:=ownsRow_setCell_other (ownsRow_setCell_other (ownsRow_setCell_other hrow2 (a:=⟨h,0,none⟩) (hne5 h (by omega)) (.slice a len cap)) (a:=⟨h+1,0,none⟩) (hne5 (h+1) (by omega)) (.int .i64 0)) (a:=⟨h+1+1,0,none⟩) (hne5 (h+1+1) (by omega)) (.int .i64 0)
  have hB3:=((hB.setCell (p:=⟨h,0,none⟩) (Nat.le_refl _) (.slice a len cap)).setCell (p:=⟨h+1,0,none⟩) (by show h≤h+1;omega) (.int .i64 0)).setCell (p:=⟨h+1+1,0,none⟩) (by show h≤h+1+1;omega) (.int .i64 0)
  have hK':=(((KeepsOthers.setCell W ⟨h,0,none⟩ (.slice a len cap)).trans (KeepsOthers.setCell _ ⟨h+1,0,none⟩ (.int .i64 0))).trans (KeepsOthers.setCell _ ⟨h+1+1,0,none⟩ (.int .i64 0))).same D _ hK rfl
  have hc:=hv.cell
  have c0:=x0.cell
  have c1:=x1.cell
  have c2:=x2.cell
  have f0:=x0.frozen
  have f1:=x1.frozen
  have f2:=x2.frozen
  gi_wp2
  refine⟨by simp,.inl ⟨_,_,rfl,run_takeDeferred hK',?_⟩⟩
  have k0:=cell_kept y0.cell (grownBy_putObj' _ D (.deferred none)) (fun r e=>by cases e;exact⟨_,hK',rfl⟩)
  have k1:=cell_kept y1.cell (grownBy_putObj' _ D (.deferred none)) (fun r e=>by cases e;exact⟨_,hK',rfl⟩)
  have k2:=cell_kept y2.cell (grownBy_putObj' _ D (.deferred none)) (fun r e=>by cases e;exact⟨_,hK',rfl⟩)
  refine⟨.tuple #[.slice a len cap,.int .i64 0,.int .i64 0],?_,.inl ⟨hr,_,rfl,?_⟩,?_⟩
  ·simp[results,Tryz.f18,go_sem,k0,k1,k2]
  ·rw[←HZ.out]
   exact aai (ownsRow_putObj hrow3 _ hK' rfl) (by rw[←HH.out];omega)
  ·rw[←HH.out]
   exact hB3.trans (belowK_b (w:=w) (by rw[HH.out];exact Nat.le_refl _) _ D _ _ (by rw[←HH.out];omega) hK' rfl rfl)
 case stop=>
  rintro D c pre W hD hpre ⟨⟨rfl,ini,last,e1,e3,q0,q1,q2⟩,hB⟩ hK
  rw[e1] at hpre
  obtain⟨hr,hl,_⟩:=a4a hpre e3
  have k0:=cell_kept q0 (grownBy_putObj' _ D (.deferred none)) (fun r e=>by cases e;exact⟨_,hK,rfl⟩)
  have k1:=cell_kept q1 (grownBy_putObj' _ D (.deferred none)) (fun r e=>by cases e;exact⟨_,hK,rfl⟩)
  have k2:=cell_kept q2 (grownBy_putObj' _ D (.deferred none)) (fun r e=>by cases e;exact⟨_,hK,rfl⟩)
  gi_wp2
  refine⟨by simp,.inl ⟨_,_,rfl,run_takeDeferred hK,?_⟩⟩
  refine⟨.tuple #[.slice none 0 0,.int .i64 30,.int .i64 (last.1:Int)],?_,.inr ⟨hr,by rw[hl]⟩,?_⟩
  ·simp[results,Tryz.f18,go_sem,k0,k1,k2]
  ·rw[←HH.out]
   exact hB.trans (belowK_b (w:=w) (by rw[HH.out];exact Nat.le_refl _) _ D _ _ (by rw[←HH.out];omega) hK rfl rfl)
end Go.Proofs.YtfhpgmlfgjfknaaGreatDoor
namespace Go.Proofs.YtfhpgmlfgjfknaaGreatDoor
open Go.RowKit Go.Vf Go.Maps
theorem ay6 {e:El}(h:aah e=true):av6 e:=by
 unfold aah wtB at h
 simp only[Bool.and_eq_true,decide_eq_true_eq] at h
 obtain⟨⟨⟨⟨⟨⟨h1,h2⟩,h3⟩,_⟩,_⟩,_⟩,_⟩:=h
 exact⟨h1,h2,h3⟩
theorem a6i (n:Int): ∀e∈at3 n,av6 e:=by
 intro e he
 unfold at3 at he
 split at he
 ·rename_i h
  unfold adc at h
  simp only[Bool.and_eq_true,decide_eq_true_eq] at h
  have hb:=a1x n
  have h0:=h.1
  rcases List.mem_cons.1 he with rfl | he
  ·refine⟨?_,?_,?_⟩<;>simp only<;>omega
  ·rcases List.mem_cons.1 he with rfl | he
   ·refine⟨?_,?_,?_⟩<;>simp only<;>omega
   ·cases he
 ·cases he
theorem av0 {E:List Ent}(hok: ∀e∈E,EntOk e)(rs:List (List Int)): ∀e∈aie E rs,av6 e:=by
 intro e he
 obtain⟨r,_,hr⟩:=List.mem_flatMap.1 he
 unfold av2 at hr
 cases hf:aep E r with
 | none=>rw[hf] at hr;exact a6i _ e hr
 | some l=>
  rw[hf] at hr
  have:=(hok _ (ahm hf)).ok
  exact ay6 (List.all_eq_true.1 this e hr)
theorem aro {E:List Ent}(hok: ∀e∈E,EntOk e)(rs:List (List Int)):(aie E rs).length≤16*rs.length:=by
 induction rs with
 | nil=>simp[aie]
 | cons r t ih=>
  have h1:=av1 hok r
  rw[show aie E (r::t)=av2 E r++aie E t from rfl,List.length_append,List.length_cons]
  omega
structure TbAt (w:World)(b bd T:Nat)(L:List Mk)(F:Int→List Int)(E:List Ent):Prop where
 blk:Blk w b 59 #[.pointer (some ⟨bd,0,none⟩),.pointer (some ⟨T,0,none⟩)]
 data:DataAt w bd L F
 tab: ∃me ml val,TabAt w T me ml val E
 load: ∃m,aaw m=.ok (L,F)
theorem TbAt.below {w w':World}{b bd T:Nat}{L:List Mk}{F:Int→List Int}{E:List Ent}(h:TbAt w b bd T L F E)(hb:Below w.heap.size w w'):TbAt w' b bd T L F E:=by
 obtain⟨me,ml,val,ht⟩:=h.tab
 exact⟨h.blk.below hb h.blk.lt,h.data.below hb,⟨me,ml,val,ht.below hb⟩,h.load⟩
theorem TbAt.ok {w:World}{b bd T:Nat}{L:List Mk}{F:Int→List Int}{E:List Ent}(h:TbAt w b bd T L F E): ∀e∈E,EntOk e:=by
 obtain⟨me,ml,val,ht⟩:=h.tab
 exact ht.ok
def adu (m e:List UInt8):Except (Int×Int×Int) ((List Mk×(Int→List Int))×List Ent):=
 match aaw m with
 | .error (why,line)=>.error (why,1,line)
 | .ok d=>match ab9 e with
  | .error (why,line)=>.error (why,2,line)
  | .ok E=>.ok (d,E)
def a15 (m e:List UInt8)(w:World)(r:Ending)(w':World):Prop:=
 Below w.heap.size w w'∧((∃why which line,adu m e=.error (why,which,line)∧r=.returned (.tuple #[.pointer none,.int .i64 why,.int .i64 which,.int .i64 line]))∨
  (∃L F E b bd T,adu m e=.ok ((L,F),E)∧r=.returned (.tuple #[.pointer (some ⟨b,0,none⟩),.int .i64 0,.int .i64 0,.int .i64 0])∧TbAt w' b bd T L F E))
theorem a2l: ∀(C:List (List UInt8)) (n:Int) (acc:List Ent) (why line:Int),aey C n acc=.error (why,line)→why≠0:=by
 intro C
 induction C with
 | nil=>intro n acc why line h;simp[aey] at h
 | cons s r ih=>
  intro n acc why line h
  unfold aey at h
  split at h
  ·exact ih _ _ _ _ h
  ·split at h
   ·cases h;decide
   ·split at h
    ·split at h
     ·cases h;decide
     ·split at h
      ·cases h;decide
      ·exact ih _ _ _ _ h
    ·cases h;decide
theorem alo {s:List UInt8}{why line:Int}(h:ab9 s=.error (why,line)):why≠0:=by
 unfold ab9 at h
 split at h
 ·cases h;decide
 ·exact a2l _ _ _ _ _ h
theorem aw6 (s:ByteArray)(w:World)(hg:Glob w)(hbig:s.size≤281474976710656):Calls Tryz.prog 22 #[.string s] w fun e w'=>asb (ab9 s.data.toList) w e w':=by
 obtain⟨m,hm⟩:=hg
 exact az1 s m w hm hbig
theorem ag1 {tmps:Array Value}{w:World}{a b c d:Value}(t2:tmps[4]?.getD undef=a)(t3:tmps[5]?.getD undef=b)(t4:tmps[6]?.getD undef=c)(t5:tmps[7]?.getD undef=d):(results Tryz.f9 tmps).run Tryz.prog w=.ok (.tuple #[a,b,c,d]) w:=by
 simp[results,Tryz.results9,go_sem,t2,t3,t4,t5]
set_option maxHeartbeats 2000000 in
theorem aln (m e:ByteArray)(hm:m.size≤281474976710656)(he:e.size≤281474976710656)(w:World)(hg:Glob w):Calls Tryz.prog 9 #[.string m,.string e] w fun r w'=>a15 m.data.toList e.data.toList w r w':=by
 have hl1:=azz m w hg hm
 go_enter Tryz.func9,Tryz.ntmps9
 go_wp2_with fail
 refine hl1.mono ?_
 rintro r w1 ⟨hb1,hp1⟩
 have hl2:=aw6 e w1 (hg.below hb1) he
 clear hl1
 cases h1:aaw m.data.toList with
 | error q=>
  obtain⟨why,line⟩:=q
  rw[h1] at hp1
  obtain rfl:r=_:=hp1
  have hy0:=apf h1
  have hy1:(why==0)=false:=by simpa using hy0
  have hy2:(why !=0)=true:=by simpa using hy0
  clear hl2
  go_wp2_with fail
  refine bodyPost_ret (ag1 rfl rfl rfl rfl) rfl ?_
  exact⟨hb1,.inl ⟨why,1,line,by unfold adu;rw[h1],rfl⟩⟩
 | ok q=>
  obtain⟨L,F⟩:=q
  rw[h1] at hp1
  obtain⟨bd,rfl,hd⟩:=hp1
  go_wp2_with fail
  refine hl2.mono ?_
  rintro r w2 ⟨hb2,hp2⟩
  have hb02:=hb1.trans (hb2.mono hb1.size)
  cases h2:ab9 e.data.toList with
  | error q2=>
   obtain⟨why2,line2⟩:=q2
   rw[h2] at hp2
   obtain rfl:r=_:=hp2
   have hy0:=alo h2
   have hy1:(why2==0)=false:=by simpa using hy0
   have hy2:(why2 !=0)=true:=by simpa using hy0
   go_wp2_with fail
   refine bodyPost_ret (ag1 rfl rfl rfl rfl) rfl ?_
   exact⟨hb02,.inl ⟨why2,2,line2,by unfold adu;rw[h1];simp only[h2],rfl⟩⟩
  | ok E=>
   rw[h2] at hp2
   obtain⟨T,me,ml,val,rfl,ht⟩:=hp2
   have hb3:=(Below.refl w2.heap.size w2).alloc (Nat.le_refl _) (.cells #[.pointer (some ⟨bd,0,none⟩),.pointer (some ⟨T,0,none⟩)] 59)
   have hn3:=Blk.new w2 59 #[.pointer (some ⟨bd,0,none⟩),.pointer (some ⟨T,0,none⟩)]
   go_wp2_with fail
   refine bodyPost_ret (ag1 rfl rfl rfl rfl) rfl ?_
   exact⟨hb02.trans (hb3.mono hb02.size),.inr ⟨L,F,E,w2.heap.size,bd,T,by unfold adu;rw[h1];simp only[h2],rfl,hn3,(hd.below hb2).below hb3,⟨me,ml,val,ht.below hb3⟩,⟨_,h1⟩⟩⟩
def ai9 (s:Int)(sh:Bool)(size:Nat)(rest:List UInt8):Int:=if afh s sh=true then (if 65536<size then 2 else if rest=[] then 0 else 30) else 1
def aom (es:List El)(er:Int)(w:World)(e:Ending)(w':World):Prop:=
 Below w.heap.size w w'∧((er=0∧ ∃v,e=.returned (.tuple #[v,.int .i64 0])∧EOwn w' w.heap.size v es)∨(er≠0∧e=.returned (.tuple #[.slice none 0 0,.int .i64 er])))
set_option maxHeartbeats 4000000 in
set_option maxRecDepth 20000 in
theorem ain {b bd T:Nat}{L:List Mk}{F:Int→List Int}{E:List Ent}{w:World}(h:TbAt w b bd T L F E)(hg:Tabs w)(s:Int)(hs:InI s)(sh back:Bool)(txt:ByteArray)(ps:List Nat)(rest:List UInt8)(ht:txt.data.toList=adf ps++rest)(hps: ∀p∈ps,ajh p)(hrest:rest=[]∨ai2 rest){X:List Int}(hX:ahx L F (ps.map fun p:Nat=>(p:Int)) X)(hXp:X.length≤57*ps.length):
  Calls Tryz.prog 25 #[.pointer (some ⟨b,0,none⟩),ax8 s sh back,.string txt] w fun e w'=>aom (aie E (abo (aaa L) (ach E) X)) (ai9 s sh txt.size rest) w e w':=by
 have hb0:=(Below.refl w.heap.size w).alloc (Nat.le_refl _) (.cells #[.int .i64 s,.bool sh,.bool back] 25)
 have hn0:=Blk.new w 25 #[.int .i64 s,.bool sh,.bool back]
 have h0:=h.below hb0
 have hg0:=hg.own hb0
 have c0:(w.alloc (.cells #[.int .i64 s,.bool sh,.bool back] 25)).cell? ⟨w.heap.size,0,none⟩=some (.int .i64 s):=hn0.cell 0
 have c1:(w.alloc (.cells #[.int .i64 s,.bool sh,.bool back] 25)).cell? ⟨w.heap.size,1,none⟩=some (.bool sh):=hn0.cell 1
 have c2:(w.alloc (.cells #[.int .i64 s,.bool sh,.bool back] 25)).cell? ⟨w.heap.size,2,none⟩=some (.bool back):=hn0.cell 2
 have HER:Hid (ai9 s sh txt.size rest=if afh s sh=true then (if 65536<txt.size then 2 else if rest=[] then 0 else 30) else 1):=rfl
 generalize ai9 s sh txt.size rest=er at HER⊢
 generalize hes:aie E (abo (aaa L) (ach E) X)=es
 have HES:Hid _:=hes
 clear hes
 go_enter Tryz.func25,Tryz.ntmps25
 go_upto_region 3 with fail
 generalize w.alloc (.cells #[.int .i64 s,.bool sh,.bool back] 25)=w0 at*
 have hir:=arv s sh back w0 hs
 cases hrc:afh s sh with
 | false=>
  rw[hrc] at hir
  have her:er=1:=by rw[HER.out,hrc];rfl
  subst her
  go_wp2_with fail
  refine hir.mono ?_
  rintro _ w1 ⟨rfl,hb1⟩
  go_wp2_with fail
  go_ret2
  exact⟨hb0.trans (hb1.mono hb0.size),.inr ⟨by decide,rfl⟩⟩
 | true=>
  rw[hrc] at hir
  go_wp2_with fail
  refine hir.mono ?_
  rintro _ w1 ⟨rfl,hb1⟩
  have hb01:=hb0.trans (hb1.mono hb0.size)
  go_wp2_with fail
  refine(axk txt w1).mono ?_
  rintro _ w2 ⟨rfl,rfl⟩
  by_cases hlong:65536<txt.size
  ·have her:er=2:=by rw[HER.out,hrc,if_pos rfl,if_pos hlong]
   subst her
   rw[decide_eq_true hlong]
   go_wp2_with fail
   go_ret2
   exact⟨hb01,.inr ⟨by decide,rfl⟩⟩
  ·rw[decide_eq_false hlong]
   have hpt:=awu txt (by omega) ps rest ht hps hrest w1 (hg0.own hb1)
   go_wp2_with fail
   refine hpt.mono ?_
   rintro e w2 ⟨hp2,hb2⟩
   have hb02:=hb01.trans (hb2.mono hb01.size)
   rcases hp2 with ⟨hr0,v2,rfl,hown2⟩ | ⟨hr0,rfl⟩
   ·have her:er=0:=by rw[HER.out,hrc,if_pos rfl,if_neg hlong,if_pos hr0]
    subst her
    obtain⟨a2,cap2,rfl⟩:=hown2.val
    have hpl:(ps.map fun p:Nat=>(p:Int)).length≤65536:=by
     have h1:=abw ps
     have h2:(adf ps++rest).length=txt.size:=by rw[←ht,←Lib.size_eq]
     rw[List.length_append] at h2
     rw[List.length_map]
     omega
    have hnu:Numb w2 a2 (ps.map fun p:Nat=>(p:Int)).length cap2 (ps.map fun p:Nat=>(p:Int)):=⟨hown2.ints,rfl,fun q hq=>by
     obtain⟨p,hp,rfl⟩:=List.mem_map.1 hq
     have:=hps p hp
     unfold ajh at this
     unfold InI
     omega,by omega⟩
    have h2:=(h0.below hb1).below hb2
    obtain⟨me,ml,val,htab⟩:=h2.tab
    obtain⟨tm,htm⟩:=h2.load
    have hXl:X.length≤57000000000:=by rw[List.length_map] at hpl;omega
    have hel:=fun W (hW:Below w2.heap.size w2 W)=>arp htm (h2.data.below hW) (htab.below hW) (⟨(hnu.ints.below hW (Nat.le_refl _)).mono hW.size,hnu.len,hnu.int,hnu.few⟩:Numb W a2 _ cap2 _) hX (by omega) hXl
    have hq0:w2.cell? ⟨b,0,none⟩=some (.pointer (some ⟨bd,0,none⟩)):=h2.blk.cell 0
    have hq1:w2.cell? ⟨b,1,none⟩=some (.pointer (some ⟨T,0,none⟩)):=h2.blk.cell 1
    rw[HES.out] at hel
    have HEL:Hid (∀W,Below w2.heap.size w2 W→Calls Tryz.prog 58 #[.pointer (some ⟨bd,0,none⟩),.pointer (some ⟨T,0,none⟩),.slice a2 (ps.map fun p:Nat=>(p:Int)).length cap2] W fun e w'=> ∃v,e=.returned v∧EOwn w' W.heap.size v es∧Below W.heap.size W w'):=hel
    generalize (ps.map fun p:Nat=>(p:Int)).length=pn at*
    clear hel hown2 hnu hpt hX htm htab h0 h hir
    go_upto_region 10 with fail
    have hbz:Below w2.heap.size w2 w2.drew:=(Below.refl _ w2).drew
    go_region_with (first | (go_at_call 58;with_reducible refine(HEL.out _ (by assumption)).mono ?_;rintro e w3 ⟨v3,rfl,hown3,hb3⟩))
    all_goals
     go_wp2_with fail
     go_ret2
     exact⟨hb02.trans ((hbz.trans (hb3.mono hbz.size)).mono hb02.size),.inl ⟨rfl,_,rfl,aai hown3 (Nat.le_trans hb02.size hbz.size)⟩⟩
   ·have her:er=30:=by rw[HER.out,hrc,if_pos rfl,if_neg hlong,if_neg hr0]
    subst her
    go_wp2_with fail
    go_ret2
    exact⟨hb02,.inr ⟨by decide,rfl⟩⟩
def lvC (sh back:Bool):Array Value:= #[.func (.func 59) #[] #[],.bool sh,.bool false,.func (.func 60) #[] #[],.bool sh,.bool back,.func (.func 61) #[] #[],.bool sh,.bool false,.func (.func 62) #[] #[],.bool sh,.bool false]
set_option maxHeartbeats 1000000 in
theorem anr (n:Nat)(hn:1≤n∧n≤4)(sh back:Bool)(w:World):Calls Tryz.prog 26 #[ax8 n sh back] w fun e w'=> ∃g,e=.returned (.slice (some ⟨g,0,none⟩) n 4)∧w.heap.size≤g∧Blk w' g 79 (lvC sh back)∧Below w.heap.size w w':=by
 have hb0:=(Below.refl w.heap.size w).alloc (Nat.le_refl _) (.cells #[.int .i64 n,.bool sh,.bool back] 25)
 have hn0:=Blk.new w 25 #[.int .i64 n,.bool sh,.bool back]
 have c0:(w.alloc (.cells #[.int .i64 n,.bool sh,.bool back] 25)).cell? ⟨w.heap.size,0,none⟩=some (.int .i64 n):=hn0.cell 0
 have c1:(w.alloc (.cells #[.int .i64 n,.bool sh,.bool back] 25)).cell? ⟨w.heap.size,1,none⟩=some (.bool sh):=hn0.cell 1
 have c2:(w.alloc (.cells #[.int .i64 n,.bool sh,.bool back] 25)).cell? ⟨w.heap.size,2,none⟩=some (.bool back):=hn0.cell 2
 go_enter Tryz.func26,Tryz.ntmps26
 go_upto_region 1 with fail
 generalize w.alloc (.cells #[.int .i64 n,.bool sh,.bool back] 25)=w0 at*
 have hb1:=(Below.refl w0.heap.size w0).alloc (Nat.le_refl _) (.cells (lvC sh back) 79)
 have hn1:Blk (w0.alloc (.cells (lvC sh back) 79)) w0.heap.size 79 (lvC sh back):=Blk.new w0 79 _
 have d0:=(hb1.cell (p:=⟨w.heap.size,0,none⟩) hn0.lt).trans c0
 unfold lvC at d0
 go_wp2_with fail
 go_ret
 exact⟨w0.heap.size,rfl,hb0.size,hn1,hb0.trans (hb1.mono hb0.size)⟩
def am1 (w:World)(g:Nat)(sh back:Bool):Prop:=w.ownsRow 0 79 3 (.slice (some ⟨g,0,none⟩) 4 4) 4 (lvC sh back).toList
theorem aqy {w:World}{g:Nat}{sh back:Bool}(h:Blk w g 79 (lvC sh back)):am1 w g sh back:=
 ⟨rfl,.inr ⟨g,4,lvC sh back,rfl,Nat.zero_le _,h,Nat.le_refl _,by unfold maxLen;omega,rfl,rfl⟩⟩
theorem avh {W:World}{g:Nat}{sh back:Bool}(h:am1 W g sh back)(i:Nat)(hi:i<4):W.cell? ⟨g,i*3,none⟩=some (.func (.func (59+i)) #[] #[])∧W.cell? ⟨g,i*3+1,none⟩=some (.bool sh)∧W.cell? ⟨g,i*3+2,none⟩=some (.bool (decide (i=1)&&back)):=by
 have hc: ∀j u,(lvC sh back).toList[j]? =some u→W.cell? ⟨g,j,none⟩=some u:=fun j u hu=>by
  have:=World.ownsRow.cells (g:=g) h rfl j u hu
  rwa [show (⟨g,0,none⟩:Addr).add j=⟨g,j,none⟩ by by_cases hj:j=0<;>simp[Addr.add,hj]] at this
 match i,hi with
 | 0,_=>exact⟨hc 0 _ rfl,hc 1 _ rfl,hc 2 _ rfl⟩
 | 1,_=>exact⟨hc 3 _ rfl,hc 4 _ rfl,hc 5 _ rfl⟩
 | 2,_=>exact⟨hc 6 _ rfl,hc 7 _ rfl,hc 8 _ rfl⟩
 | 3,_=>exact⟨hc 9 _ rfl,hc 10 _ rfl,hc 11 _ rfl⟩
theorem az5 (sh back:Bool)(k:Nat)(es:List El):(if (decide (k=1)&&back)=true then (lvl sh k false es).reverse else lvl sh k false es)=lev sh back k es:=by
 unfold lev
 simp only[Bool.and_eq_true,decide_eq_true_eq]
theorem ani {n i:Nat}(h:i<n):(List.range n).drop i=i::(List.range n).drop (i+1):=by
 rw[List.drop_eq_getElem_cons (by simpa using h)]
 simp
def a65 (s:Int)(sh back:Bool)(es:List El)(er:Int)(w:World)(e:Ending)(w':World):Prop:=
 Below w.heap.size w w'∧((er=0∧e=.returned (.tuple #[.string (bs (aq4 s.toNat sh back es)),.int .i64 0]))∨(er≠0∧e=.returned (.tuple #[.string ⟨#[]⟩,.int .i64 er])))
set_option maxHeartbeats 4000000 in
set_option maxRecDepth 20000 in
theorem apj {es:List El}{er:Int}{b:Nat}{s:Int}{sh back:Bool}{txt:ByteArray}{w:World}(hok: ∀e∈es,av6 e)(hes:es.length≤60000000)(hs:er=0→1≤s∧s≤4)
  (hel: ∀W,Below w.heap.size w W→Calls Tryz.prog 25 #[.pointer (some ⟨b,0,none⟩),ax8 s sh back,.string txt] W fun e w'=>aom es er W e w'):
  Calls Tryz.prog 12 #[.pointer (some ⟨b,0,none⟩),ax8 s sh back,.string txt] w fun e w'=>a65 s sh back es er w e w':=by
 have hb0:=(Below.refl w.heap.size w).alloc (Nat.le_refl _) (.cells #[.int .i64 s,.bool sh,.bool back] 25)
 have hn0:=Blk.new w 25 #[.int .i64 s,.bool sh,.bool back]
 have c0:(w.alloc (.cells #[.int .i64 s,.bool sh,.bool back] 25)).cell? ⟨w.heap.size,0,none⟩=some (.int .i64 s):=hn0.cell 0
 have c1:(w.alloc (.cells #[.int .i64 s,.bool sh,.bool back] 25)).cell? ⟨w.heap.size,1,none⟩=some (.bool sh):=hn0.cell 1
 have c2:(w.alloc (.cells #[.int .i64 s,.bool sh,.bool back] 25)).cell? ⟨w.heap.size,2,none⟩=some (.bool back):=hn0.cell 2
 have hel0:=hel _ hb0
 clear hel
 obtain⟨i5,hi5,hz0,hz1,hz2⟩:=info_parts a0k
 go_enter Tryz.func12,Tryz.ntmps12
 go_wp2_with fail
 generalize w.alloc (.cells #[.int .i64 s,.bool sh,.bool back] 25)=w0 at*
 refine hel0.mono ?_
 rintro r w1 ⟨hb1,⟨rfl,v1,rfl,hown1⟩ | ⟨her,rfl⟩⟩
 ·obtain⟨n,rfl⟩: ∃n:Nat,s=(n:Int):=⟨s.toNat,by have:=hs rfl;omega⟩
  have hn:1≤n∧n≤4:=by have:=hs rfl;omega
  have hb01:=hb0.trans (hb1.mono hb0.size)
  have k0:=(hb1.cell (p:=⟨w.heap.size,0,none⟩) hn0.lt).trans c0
  have k1:=(hb1.cell (p:=⟨w.heap.size,1,none⟩) hn0.lt).trans c1
  have k2:=(hb1.cell (p:=⟨w.heap.size,2,none⟩) hn0.lt).trans c2
  obtain⟨ea,ec,rfl,_⟩:=hown1.cap
  have HE1:Aside (Els w1.heap.size w1 (.slice ea es.length ec) es):=EOwn.els hown1
  clear hs c0 c1 c2 hown1 hel0
  generalize hR:aq4 (n:Int).toNat sh back es=R
  have HR:Hid ([]++a6e sh back es ((List.range n).drop 0)=R):=by show _=_;rw[←hR];simp[aq4]
  have HKQ:Hid _:=hR
  clear hR
  go_upto_region 4 with fail
  go_cut [10] from 23 to 30 (fun kv wx=> ∃g c,kv=.slice (some ⟨g,0,none⟩) 0 c∧Aside (BOwn 5 wx w1.heap.size (.slice (some ⟨g,0,none⟩) 0 c) [])∧Below w1.heap.size w1 wx)
  case first=>
   clear HR
   have hmx:600000000≤maxLen:=by unfold maxLen;omega
   obtain rfl | rfl | rfl | rfl:n=1∨n=2∨n=3∨n=4:=by omega
   ·go_wp2_with (first | (refine wpList_make_own _ rfl _ _ 74 rfl w1.heap.size 5 i5 (.int .u8 0) 1 Tryz.underlying74 hi5 hz0 hz1 .i64 .i64 _ (2*(es.length+1)) rfl rfl (by omega) (by rw[hz2];omega) (by omega) (Nat.le_refl _) ?_;intro w2 hown2 hg2))
    go_meet
    exact⟨_,_,rfl,hown2,(Below.refl _ w1).grown hg2 (Nat.le_refl _) (fun j hj=>by cases hj)⟩
   ·go_wp2_with (first | (refine wpList_make_own _ rfl _ _ 74 rfl w1.heap.size 5 i5 (.int .u8 0) 1 Tryz.underlying74 hi5 hz0 hz1 .i64 .i64 _ (4*(es.length+1)) rfl rfl (by omega) (by rw[hz2];omega) (by omega) (Nat.le_refl _) ?_;intro w2 hown2 hg2))
    go_meet
    exact⟨_,_,rfl,hown2,(Below.refl _ w1).grown hg2 (Nat.le_refl _) (fun j hj=>by cases hj)⟩
   ·go_wp2_with (first | (refine wpList_make_own _ rfl _ _ 74 rfl w1.heap.size 5 i5 (.int .u8 0) 1 Tryz.underlying74 hi5 hz0 hz1 .i64 .i64 _ (6*(es.length+1)) rfl rfl (by omega) (by rw[hz2];omega) (by omega) (Nat.le_refl _) ?_;intro w2 hown2 hg2))
    go_meet
    exact⟨_,_,rfl,hown2,(Below.refl _ w1).grown hg2 (Nat.le_refl _) (fun j hj=>by cases hj)⟩
   ·go_wp2_with (first | (refine wpList_make_own _ rfl _ _ 74 rfl w1.heap.size 5 i5 (.int .u8 0) 1 Tryz.underlying74 hi5 hz0 hz1 .i64 .i64 _ (8*(es.length+1)) rfl rfl (by omega) (by rw[hz2];omega) (by omega) (Nat.le_refl _) ?_;intro w2 hown2 hg2))
    go_meet
    exact⟨_,_,rfl,hown2,(Below.refl _ w1).grown hg2 (Nat.le_refl _) (fun j hj=>by cases hj)⟩
  case rest=>
   obtain⟨g0,cp0,rfl,HB,hb2⟩:=hcut
   have m0:=(hb2.cell (p:=⟨w.heap.size,0,none⟩) (Nat.lt_of_lt_of_le hn0.lt hb1.size)).trans k0
   have m1:=(hb2.cell (p:=⟨w.heap.size,1,none⟩) (Nat.lt_of_lt_of_le hn0.lt hb1.size)).trans k1
   have m2:=(hb2.cell (p:=⟨w.heap.size,2,none⟩) (Nat.lt_of_lt_of_le hn0.lt hb1.size)).trans k2
   clear k0 k1 k2 hn0
   go_wp2_with fail
   refine(anr n hn sh back wc).mono ?_
   rintro _ w2 ⟨g,rfl,_,hlv,hb3⟩
   have HLV:Aside (am1 w2 g sh back):=aqy hlv
   have HB2:Aside (BOwn 5 w2 w1.heap.size (.slice (some ⟨g0,0,none⟩) 0 cp0) []):=aad HB.out hb3
   have hb13:=hb2.trans (hb3.mono hb2.size)
   clear HB hlv m0 m1 m2 hb2 hb3
   go_wp2_with fail
   go_loopw [10,34] (fun kv iv wr=> ∃(i:Nat) (ac:List UInt8) (a1:Option Addr) (c1:Nat),i≤n∧iv=.int .i64 i∧kv=.slice a1 ac.length c1∧Aside (BOwn 5 wr w1.heap.size (.slice a1 ac.length c1) ac)∧Hid (ac++a6e sh back es ((List.range n).drop i)=R)∧Hid (ac.length≤i*120000002)∧Below w1.heap.size w1 wr∧Aside (am1 wr g sh back)) (fun _ iv _=>n-(intOf iv).toNat)
   case atStart=>exact⟨0,[],_,_,by omega,rfl,rfl,HB2,HR,by show _≤_;simp,hb13,HLV⟩
   case round=>
    clear HR HB2 HLV hb13
    obtain⟨i,ac,a1,c1,hi1,rfl,rfl,HB,HR,HL,hbr,HLV⟩:=hrel
    by_cases hlt:i<n
    ·obtain⟨l0,l1,l2⟩:=avh HLV.out i (by omega)
     have hHR:=HR.out
     rw[ani hlt,az4,←List.append_assoc] at hHR
     have HR2:Hid ((ac++awp (lev sh back i es))++a6e sh back es ((List.range n).drop (i+1))=R):=hHR
     have hal:=HL.out
     have hrl:=att sh back i es
     have hbk:=az5 sh back i es
     have hrok:=a7r (sh:=sh) (back:=back) (k:=i) hok
     generalize (decide (i=1)&&back)=bk at l2 hbk
     have hb4:=(Below.refl wr.heap.size wr).alloc (Nat.le_refl _) (.cells #[.func (.func (59+i)) #[] #[],.bool sh,.bool bk] 79)
     have hn4:=Blk.new wr 79 #[.func (.func (59+i)) #[] #[],.bool sh,.bool bk]
     clear hHR HR
     go_upto_region 8 with fail
     have hw4:=ah3 i (by omega) sh bk hok ((HE1.out.below hbr (Nat.le_refl _)).below hb4 hbr.size) (Nat.le_trans hbr.size hb4.size) (by omega)
     have HB4:Aside (BOwn 5 (wr.alloc (.cells #[.func (.func (59+i)) #[] #[],.bool sh,.bool bk] 79)) w1.heap.size (.slice a1 ac.length c1) ac):=aad HB.out hb4
     have HLV4:Aside (am1 (wr.alloc (.cells #[.func (.func (59+i)) #[] #[],.bool sh,.bool bk] 79)) g sh back):=aad HLV.out hb4
     have hb14:=hbr.trans (hb4.mono hbr.size)
     have y0:(wr.alloc (.cells #[.func (.func (59+i)) #[] #[],.bool sh,.bool bk] 79)).cell? ⟨wr.heap.size,0,none⟩=some (.func (.func (59+i)) #[] #[]):=hn4.cell 0
     have y1:(wr.alloc (.cells #[.func (.func (59+i)) #[] #[],.bool sh,.bool bk] 79)).cell? ⟨wr.heap.size,1,none⟩=some (.bool sh):=hn4.cell 1
     have y2:(wr.alloc (.cells #[.func (.func (59+i)) #[] #[],.bool sh,.bool bk] 79)).cell? ⟨wr.heap.size,2,none⟩=some (.bool bk):=hn4.cell 2
     rw[hbk] at hw4
     generalize wr.alloc (.cells #[.func (.func (59+i)) #[] #[],.bool sh,.bool bk] 79)=W4 at*
     clear HB HLV l0 l1 l2 hn4 hb4 hbr hbk
     go_wp2_with fail
     refine hw4.mono ?_
     rintro _ w5 ⟨u5,rfl,hu5,hb5⟩
     have hb15:=hb14.trans (hb5.mono hb14.size)
     have hkB:BOwn 5 w5 w1.heap.size (.slice a1 ac.length c1) ac:=aad HB4.out hb5
     have hlB:am1 w5 g sh back:=aad HLV4.out hb5
     generalize lev sh back i es=row at*
     have hap:=amf hkB hu5 hrok (by omega) hb15.size
     have HLB:Aside (am1 w5 g sh back):=hlB
     clear hkB hw4 HB4 HLV4 hlB y0 y1 y2 hu5
     go_wp2_with fail
     refine hap.mono ?_
     rintro _ w6 ⟨v6,rfl,hk6,hb6,ho6⟩
     obtain⟨a6,c6,rfl⟩: ∃a6 c6,v6=.slice a6 (ac++awp row).length c6:=by
      rcases hk6.form with ⟨rfl,e⟩ | ⟨g',c',rfl,_⟩
      ·exact⟨_,_,by rw[e];rfl⟩
      ·exact⟨_,_,rfl⟩
     have HK6:Aside (BOwn 5 w6 w1.heap.size (.slice a6 (ac++awp row).length c6) (ac++awp row)):=hk6
     have HL6:Aside (am1 w6 g sh back):=ho6 _ _ _ _ _ _ (by decide) HLB.out
     have hlen6:(ac++awp row).length≤(i+1)*120000002:=by rw[List.length_append,a2q];omega
     have hb16:=hb15.trans hb6
     clear hk6 ho6 hap HLB
     generalize ac++awp row=ac6 at*
     go_wp2_with fail
     go_roundw
     case rel=>exact⟨i+1,ac6,a6,c6,by omega,by simp,rfl,HK6,HR2,hlen6,hb16,HL6⟩
     case measure=>simp only[intOf];omega
    ·have hRR:R=ac:=by rw[←HR.out,List.drop_of_length_le (by simp;omega)];simp[a6e]
     have hconv:=afq (P:=Tryz.prog) wr 74 9 5 Tryz.underlying74 Tryz.underlying5 Tryz.underlying9 w1.heap.size _ ac HB.out
     subst hRR
     clear HR
     go_wp2_with fail
     go_ret2
     exact⟨hb01.trans (hbr.mono hb01.size),.inl ⟨rfl,by rw[HKQ.out];rfl⟩⟩
 ·have hy1:(er==0)=false:=by simpa using her
  have hy2:(er !=0)=true:=by simpa using her
  go_wp2_with fail
  go_ret2
  exact⟨hb0.trans (hb1.mono hb0.size),.inr ⟨her,rfl⟩⟩
end Go.Proofs.YtfhpgmlfgjfknaaGreatDoor
