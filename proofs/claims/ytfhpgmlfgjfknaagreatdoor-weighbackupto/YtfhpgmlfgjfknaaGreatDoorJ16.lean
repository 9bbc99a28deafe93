/- Contracts and lemmas (nothing is claimed here). -/
import Derived.Test.YtfhpgmlfgjfknaaGreatDoorJ15
namespace Go.Proofs.YtfhpgmlfgjfknaaGreatDoor
open Go.RowKit Go.Vf Go.Maps
def KC (w w':World):Prop:= ∀j t cs,Blk w j t cs→Blk w' j t cs
theorem KC.trans {w w1 w2:World}(h:KC w w1)(h2:KC w1 w2):KC w w2:=fun j t cs hj=>h2 j t cs (h j t cs hj)
theorem KC.of_below {w w':World}(h:Below w.heap.size w w'):KC w w':=fun _ _ _ hj=>hj.below h hj.lt
def aml (val:List Int→Value)(E:List Ent)(l:List Int):Option Value:=if E.any (fun e=>acu e.1==l) then some (val l) else none
def alm (E:List Ent)(x:Int):Option Value:=if ab0 E x=0 then none else some (.int .i64 (ab0 E x:Int))
structure TabAt (w:World)(T me ml:Nat)(val:List Int→Value)(E:List Ent):Prop where
 blk:Blk w T 118 #[.map (some me),.map (some ml)]
 ents:MapR w me E.length (aml val E)
 longs:MapAt w ml E.length (alm E)
 ne:me≠ml
 els: ∀e∈E,Els w.heap.size w (val (acu e.1)) e.2
 ok: ∀e∈E,EntOk e
theorem TabAt.below {w w':World}{T me ml:Nat}{val:List Int→Value}{E:List Ent}(h:TabAt w T me ml val E)(hb:Below w.heap.size w w'):TabAt w' T me ml val E:=
 ⟨h.blk.below hb h.blk.lt,h.ents.below hb h.ents.lt,h.longs.below hb h.longs.lt,h.ne,fun e he=>((h.els e he).below hb (Nat.le_refl _)).mono hb.size,h.ok⟩
theorem aqu: ∀(p:List Int) (k:Nat),(∀x∈p,x≠ -1)→(p++List.replicate k (-1)).takeWhile (fun x=>x != -1)=p:=by
 intro p
 induction p with
 | nil=>
  intro k _
  cases k with
  | zero=>rfl
  | succ k=>simp[List.replicate_succ]
 | cons a r ih=>
  intro k h
  have ha:a≠ -1:=h a (by simp)
  rw[List.cons_append,List.takeWhile_cons_of_pos (by simpa using ha),ih k (fun x hx=>h x (by simp[hx]))]
theorem ao8 {p q:List Int}(hp:adp p=true)(hq:adp q=true)(h:acu p=acu q):p=q:=by
 have h1:=aqu p (8-p.length) (ast hp)
 have h2:=aqu q (8-q.length) (ast hq)
 unfold acu at h
 rw[←h1,h,h2]
theorem al4 {E:List Ent}(hok: ∀e∈E,EntOk e){p:List Int}(hp:adp p=true):E.any (fun e=>acu e.1==acu p)=akf E p:=by
 unfold akf
 apply Bool.eq_iff_iff.2
 rw[List.any_eq_true,List.any_eq_true]
 constructor
 ·rintro⟨e,he,h⟩
  exact⟨e,he,by rw[beq_iff_eq] at h⊢;exact ao8 (hok e he).row hp h⟩
 ·rintro⟨e,he,h⟩
  exact⟨e,he,by rw[beq_iff_eq] at h⊢;rw[h]⟩
theorem aw5 (E:List Ent)(e:Ent)(x:Int):ab0 (E++[e]) x=if e.1.head? =some x then max (ab0 E x) e.1.length else ab0 E x:=by
 induction E with
 | nil=>
  simp only[List.nil_append,ab0]
  split<;>simp
 | cons a r ih=>
  simp only[List.cons_append,ab0,ih]
  split<;>split<;>omega
theorem avi: ∀(E:List Ent) (x:Int),(∀e∈E,e.1.length≤8)→ab0 E x≤8:=by
 intro E
 induction E with
 | nil=>intro x _;simp[ab0]
 | cons a r ih=>
  intro x h
  have h1:=ih x (fun e he=>h e (by simp[he]))
  have h2:=h a (by simp)
  unfold ab0
  split<;>omega
theorem ax9 (w:World):(zeroValue 3).run Tryz.prog w=.ok (.int .i64 0) w:=by kernel_rfl
theorem aya (w:World):(zeroValue 71).run Tryz.prog w=.ok (.slice none 0 0) w:=by kernel_rfl
theorem aqz (E:List Ent)(x:Int):(alm E x).getD (.int .i64 0)=.int .i64 (ab0 E x:Int):=by
 unfold alm
 split
 ·rename_i h;rw[h];rfl
 ·rfl
theorem a30 {p:List Int}(hp:adp p=true){a0 a1 a2 a3 a4 a5 a6 a7:Int}(h:acu p=[a0,a1,a2,a3,a4,a5,a6,a7]):p.head? =some a0:=by
 have hl:=(abf hp).1
 cases p with
 | nil=>simp at hl
 | cons a r=>
  unfold acu at h
  simp only[List.cons_append,List.cons.injEq] at h
  rw[h.1];rfl
theorem afl {w:World}{b:Nat}{n:Nat}{f:Int→Option Value}(h:MapAt w b n f){g:Nat}{t:TypeId}{cs:Array Value}(hg:Blk w g t cs):b≠g:=by
 rintro rfl
 obtain⟨D,⟨es,clock,hb,_⟩,_⟩:=h
 rw[show w.heap[b]? =_ from hg] at hb
 cases hb
theorem agj {w:World}{b:Nat}{n:Nat}{f:List Int→Option Value}(h:MapR w b n f){g:Nat}{t:TypeId}{cs:Array Value}(hg:Blk w g t cs):b≠g:=by
 rintro rfl
 obtain⟨D,⟨es,clock,hb,_⟩,_⟩:=h
 rw[show w.heap[b]? =_ from hg] at hb
 cases hb
theorem avf {w w':World}{b n:Nat}{f:List Int→Option Value}(h:MapR w b n f)(hg:w.grownBy w' (some b)){n₀:Nat}{v:Value}{l:List El}(he:Els n₀ w v l)(hn:n₀≤w.heap.size):Els n₀ w' v l:=by
 rcases he with he | ⟨g,off,cap,e,hlt,hc⟩
 ·exact .inl he
 ·by_cases hl:l=[]
  ·subst hl
   exact .inl ⟨_,_,e,rfl⟩
  ·have hne:g≠b:=by
    rintro rfl
    obtain⟨D,⟨es,clock,hb,_⟩,_⟩:=h
    have h0:=(hc 0 (List.length_pos_iff.2 hl)).1
    simp[World.cell?,hb] at h0
   have hbl:w'.heap[g]? =w.heap[g]?:=hg.block g (by omega) (fun e=>hne (Option.some.inj e))
   refine .inr ⟨g,off,cap,e,hlt,fun j hj=> ?_⟩
   have q: ∀k,w'.cell? ⟨g,k,none⟩=w.cell? ⟨g,k,none⟩:=fun k=>by simp only[World.cell?,hbl]
   obtain⟨h0,h1,h2,h3⟩:=hc j hj
   exact⟨(q _).trans h0,(q _).trans h1,(q _).trans h2,(q _).trans h3⟩
theorem avg {w w':World}{b n:Nat}{f:Int→Option Value}(h:MapAt w b n f)(hg:w.grownBy w' (some b)){n₀:Nat}{v:Value}{l:List El}(he:Els n₀ w v l)(hn:n₀≤w.heap.size):Els n₀ w' v l:=by
 rcases he with he | ⟨g,off,cap,e,hlt,hc⟩
 ·exact .inl he
 ·by_cases hl:l=[]
  ·subst hl
   exact .inl ⟨_,_,e,rfl⟩
  ·have hne:g≠b:=by
    rintro rfl
    obtain⟨D,⟨es,clock,hb,_⟩,_⟩:=h
    have h0:=(hc 0 (List.length_pos_iff.2 hl)).1
    simp[World.cell?,hb] at h0
   have hbl:w'.heap[g]? =w.heap[g]?:=hg.block g (by omega) (fun e=>hne (Option.some.inj e))
   refine .inr ⟨g,off,cap,e,hlt,fun j hj=> ?_⟩
   have q: ∀k,w'.cell? ⟨g,k,none⟩=w.cell? ⟨g,k,none⟩:=fun k=>by simp only[World.cell?,hbl]
   obtain⟨h0,h1,h2,h3⟩:=hc j hj
   exact⟨(q _).trans h0,(q _).trans h1,(q _).trans h2,(q _).trans h3⟩
theorem aac {P:Program}{md:Region.Mode}{ops:Array Oper}{Q:Exit→Act→World→Prop}{S:World→Prop}{i:Nat}{oi:Oper}{v:Value}{fuel:Nat}{listed:Array Bool}{a:Act}{w:World}(d:Option Nat)(hi:ops[i]? =some oi)(hd:oi.dst=d)
  (hs:Region.noSelect ops=true) (hf:Region.free md ops listed i=true) (hr:(Region.ready md ops listed).contains i=true)
  (hQ: ∀c a w,Q (.panic c) (a.put oi.dst v) w→Q (.panic c) a w) (hy:YieldsIf P ops S oi v a) (hS:S w)
  (h:wpAnyH P md ops Q S fuel (listed.setIfInBounds i true) (a.put d v) w):wpAnyH P md ops Q S (fuel+1) listed a w:=by
 subst hd
 exact wpAnyH_take hi hs hf hr hQ hy hS h
set_option maxHeartbeats 2000000 in
set_option maxRecDepth 20000 in
theorem a6z (base T me ml:Nat)(val:List Int→Value)(E:List Ent)(p:List Int)(l:List El)(hx:EntOk (p,l))(hnew:akf E p=false)(hE:E.length<4096)(a0 a1 a2 a3 a4 a5 a6 a7:Int)(hp:acu p=[a0,a1,a2,a3,a4,a5,a6,a7])
  (av:Option Addr) (nv cv:Nat) (w:World) (hbm:base≤me) (hbl:base≤ml) (ht:TabAt w T me ml val E) (hel:Els w.heap.size w (.slice av nv cv) l):
  Calls Tryz.prog 92 #[.pointer (some ⟨T,0,none⟩),.agg #[.int .i64 a0,.int .i64 a1,.int .i64 a2,.int .i64 a3,.int .i64 a4,.int .i64 a5,.int .i64 a6,.int .i64 a7],.slice av nv cv] w fun e w'=>e=.returned (.tuple #[])∧(∃val',TabAt w' T me ml val' (E++[(p,l)]))∧Below base w w'∧KC w w':=by
 have hrow:ang (acu p)=.agg #[.int .i64 a0,.int .i64 a1,.int .i64 a2,.int .i64 a3,.int .i64 a4,.int .i64 a5,.int .i64 a6,.int .i64 a7]:=by rw[hp];rfl
 have hrp:adp p=true:=hx.row
 have hin:=aqc hrp
 have ha0:InI a0:=hin.2 a0 (by rw[hp];simp)
 have hb0:=(Below.refl w.heap.size w).alloc (Nat.le_refl _) (.cells #[.int .i64 a0,.int .i64 a1,.int .i64 a2,.int .i64 a3,.int .i64 a4,.int .i64 a5,.int .i64 a6,.int .i64 a7] 162)
 have hBn:=Blk.new w 162 #[.int .i64 a0,.int .i64 a1,.int .i64 a2,.int .i64 a3,.int .i64 a4,.int .i64 a5,.int .i64 a6,.int .i64 a7]
 have ht0:=ht.below hb0
 have hel0:=(hel.below hb0 (Nat.le_refl _)).mono hb0.size
 have hlw:w.heap.size<(w.alloc (.cells #[.int .i64 a0,.int .i64 a1,.int .i64 a2,.int .i64 a3,.int .i64 a4,.int .i64 a5,.int .i64 a6,.int .i64 a7] 162)).heap.size:=hBn.lt
 have hmeW:=ht.ents.lt
 have hmlW:=ht.longs.lt
 have hbel0:Below base w (w.alloc (.cells #[.int .i64 a0,.int .i64 a1,.int .i64 a2,.int .i64 a3,.int .i64 a4,.int .i64 a5,.int .i64 a6,.int .i64 a7] 162)):=hb0.mono (by omega)
 go_enter Tryz.func92,Tryz.ntmps92
 go_upto_region 1 with fail
 generalize hW:(w.alloc (.cells #[.int .i64 a0,.int .i64 a1,.int .i64 a2,.int .i64 a3,.int .i64 a4,.int .i64 a5,.int .i64 a6,.int .i64 a7] 162))=W at hb0 hBn ht0 hel0 hlw hbel0⊢
 clear hW ht hel
 have hnf:aml val E (acu p)=none:=by unfold aml;rw[al4 ht0.ok hrp,hnew];try rfl
 have hMd:MapR W.drew me E.length (aml val E):=ht0.ents.block rfl
 obtain⟨w1,hup,hM1,hg1,hs1⟩:=hMd.update (by unfold maxLen;omega) hin hnf (.slice av nv cv)
 rw[hrow] at hup
 have hgW:W.grownBy w1 (some me):=by
  have:=hg1
  exact⟨this.1,this.2,this.3,this.4,this.5⟩
 have hT1:Blk w1 T 118 #[.map (some me),.map (some ml)]:=(hgW.block T ht0.blk.lt (fun e=>agj ht0.ents ht0.blk (Option.some.inj e).symm)).trans ht0.blk
 have hB1:Blk w1 w.heap.size 162 #[.int .i64 a0,.int .i64 a1,.int .i64 a2,.int .i64 a3,.int .i64 a4,.int .i64 a5,.int .i64 a6,.int .i64 a7]:=(hgW.block _ hlw (fun e=>agj ht0.ents hBn (Option.some.inj e).symm)).trans hBn
 have hL1:MapAt w1 ml E.length (alm E):=ht0.longs.kept hgW (fun e=>ht0.ne (Option.some.inj e).symm)
 have hE1: ∀e∈E,Els w1.heap.size w1 (val (acu e.1)) e.2:=fun e he=>(avf ht0.ents hgW (ht0.els e he) (Nat.le_refl _)).mono hgW.size
 have hel1:=(avf ht0.ents hgW hel0 (Nat.le_refl _)).mono hgW.size
 have hbel1:Below base w w1:=hbel0.grown hgW (by omega) (fun j hj=>by cases hj;exact hbm)
 have t0:W.cell? ⟨T,0,none⟩=some (.map (some me)):=ht0.blk.cell 0
 obtain⟨c0,c1,c2,c3,c4,c5,c6,c7,_⟩:=hBn.c8
 go_region
 go_upto_region 2 with fail
 have hL8:=avi E a0 (fun e he=>(abf (ht0.ok e he).row).2)
 have hk8:=abf hrp
 have hhd:=a30 hrp hp
 have hsz:=fun w=>au2 hrp hp w
 have hT1lt:=hT1.lt
 have hB1lt:=hB1.lt
 have hL1lt:=hL1.lt
 have hMlt:=hM1.lt
 have hLd:MapAt w1.drew ml E.length (alm E):=hL1.block rfl
 have hLa:MapAt (w1.alloc (.cells #[.int .i64 a0,.int .i64 a1,.int .i64 a2,.int .i64 a3,.int .i64 a4,.int .i64 a5,.int .i64 a6,.int .i64 a7] 162)).drew ml E.length (alm E):=(hL1.alloc _).drew
 have hl1:=hLd.look Tryz.underlying116 (ax9 _) ha0
 have hl2:=hLa.look Tryz.underlying116 (ax9 _) ha0
 rw[aqz] at hl1 hl2
 obtain⟨w2,hup2,hL2,hg2,hs2⟩:=hLa.update Tryz.underlying116 (by unfold maxLen;omega) ha0 (.int .i64 (max (ab0 E a0:Int) (p.length:Int)))
 have t1:w1.cell? ⟨T,1,none⟩=some (.map (some ml)):=hT1.cell 1
 obtain⟨e0,e1,e2,e3,e4,e5,e6,e7,_⟩:=hB1.c8
 have hgb:Below w1.heap.size w1 (w1.alloc (.cells #[.int .i64 a0,.int .i64 a1,.int .i64 a2,.int .i64 a3,.int .i64 a4,.int .i64 a5,.int .i64 a6,.int .i64 a7] 162)).drew:=((Below.refl w1.heap.size w1).alloc (Nat.le_refl _) _).drew
 have t2:=(hgb.cell (p:=⟨T,1,none⟩) hT1lt).trans t1
 have g0:=(hgb.cell (p:=⟨w.heap.size,0,none⟩) hB1lt).trans e0
 have hend: ∃val',TabAt w2 T me ml val' (E++[(p,l)]):=by
  refine⟨fun y=>if y=acu p then .slice av nv cv else val y,?_,?_,?_,ht0.ne,?_,?_⟩
  ·have h:=hT1.below hgb hT1lt
   exact(hg2.block T h.lt (fun e=>afl hLa h (Option.some.inj e).symm)).trans h
  ·have h:=(hM1.below hgb hMlt).kept hg2 (fun e=>ht0.ne (Option.some.inj e))
   rw[List.length_append]
   have hf:a5w (aml val E) (acu p) (.slice av nv cv)=aml (fun y=>if y=acu p then .slice av nv cv else val y) (E++[(p,l)]):=by
    funext y
    unfold a5w aml
    by_cases hy:y=acu p
    ·subst hy;simp
    ·have hy': ¬acu p=y:=fun e=>hy e.symm
     rw[if_neg hy,show(E++[(p,l)]).any (fun e=>acu e.1==y)=E.any (fun e=>acu e.1==y) by simp[hy']]
     simp only[hy,if_false]
   rw[hf] at h
   exact h
  ·rw[List.length_append]
   have hf:aux (alm E) a0 (.int .i64 (max (ab0 E a0:Int) (p.length:Int)))=alm (E++[(p,l)]):=by
    funext y
    unfold aux alm
    rw[aw5]
    simp only
    rw[hhd]
    by_cases hy:y=a0
    ·subst hy
     have: ¬max (ab0 E y) p.length=0:=by omega
     simp only[if_true,this,if_false]
     congr 2
     omega
    ·have hy': ¬some a0=some y:=fun e=>hy (Option.some.inj e).symm
     simp only[hy,hy',if_false]
   rw[hf] at hL2
   exact hL2
  ·intro e he
   rcases List.mem_append.1 he with he | he
   ·have hne: ¬acu e.1=acu p:=fun eq=>by
     have:=ao8 (ht0.ok e he).row hrp eq
     have hmem:e.1∈E.map Prod.fst:=List.mem_map_of_mem he
     rw[this] at hmem
     exact anx hnew hmem
    simp only[hne,if_false]
    exact(avg hLa hg2 ((hE1 e he).below hgb (Nat.le_refl _)) hgb.size).mono (by have:=hg2.size;have:=hgb.size;omega)
   ·rw[List.mem_singleton] at he
    subst he
    simp only[if_true]
    exact(avg hLa hg2 (hel1.below hgb (Nat.le_refl _)) hgb.size).mono (by have:=hg2.size;have:=hgb.size;omega)
  ·intro e he
   rcases List.mem_append.1 he with he | he
   ·exact ht0.ok e he
   ·rw[List.mem_singleton] at he;subst he;exact hx
 have hbel2:Below base w w2:=(hbel1.trans (hgb.mono (by omega))).grown hg2 (by have:=hgb.size;omega) (fun j hj=>by cases hj;exact hbl)
 have hqa: ∀(b j:Nat),b<w1.heap.size→(w1.alloc (.cells #[.int .i64 a0,.int .i64 a1,.int .i64 a2,.int .i64 a3,.int .i64 a4,.int .i64 a5,.int .i64 a6,.int .i64 a7] 162)).drew.cell? ⟨b,j,none⟩=w1.cell? ⟨b,j,none⟩:=fun b j hb=>hgb.cell (p:=⟨b,j,none⟩) hb
 have hSa:(w1.alloc (.cells #[.int .i64 a0,.int .i64 a1,.int .i64 a2,.int .i64 a3,.int .i64 a4,.int .i64 a5,.int .i64 a6,.int .i64 a7] 162)).drew.cell? ⟨T,1,none⟩=some (.map (some ml))∧(w1.alloc (.cells #[.int .i64 a0,.int .i64 a1,.int .i64 a2,.int .i64 a3,.int .i64 a4,.int .i64 a5,.int .i64 a6,.int .i64 a7] 162)).drew.cell? ⟨w.heap.size,0,none⟩=some (.int .i64 a0)∧(w1.alloc (.cells #[.int .i64 a0,.int .i64 a1,.int .i64 a2,.int .i64 a3,.int .i64 a4,.int .i64 a5,.int .i64 a6,.int .i64 a7] 162)).drew.cell? ⟨w.heap.size,1,none⟩=some (.int .i64 a1)∧(w1.alloc (.cells #[.int .i64 a0,.int .i64 a1,.int .i64 a2,.int .i64 a3,.int .i64 a4,.int .i64 a5,.int .i64 a6,.int .i64 a7] 162)).drew.cell? ⟨w.heap.size,2,none⟩=some (.int .i64 a2)∧(w1.alloc (.cells #[.int .i64 a0,.int .i64 a1,.int .i64 a2,.int .i64 a3,.int .i64 a4,.int .i64 a5,.int .i64 a6,.int .i64 a7] 162)).drew.cell? ⟨w.heap.size,3,none⟩=some (.int .i64 a3)∧(w1.alloc (.cells #[.int .i64 a0,.int .i64 a1,.int .i64 a2,.int .i64 a3,.int .i64 a4,.int .i64 a5,.int .i64 a6,.int .i64 a7] 162)).drew.cell? ⟨w.heap.size,4,none⟩=some (.int .i64 a4)∧(w1.alloc (.cells #[.int .i64 a0,.int .i64 a1,.int .i64 a2,.int .i64 a3,.int .i64 a4,.int .i64 a5,.int .i64 a6,.int .i64 a7] 162)).drew.cell? ⟨w.heap.size,5,none⟩=some (.int .i64 a5)∧(w1.alloc (.cells #[.int .i64 a0,.int .i64 a1,.int .i64 a2,.int .i64 a3,.int .i64 a4,.int .i64 a5,.int .i64 a6,.int .i64 a7] 162)).drew.cell? ⟨w.heap.size,6,none⟩=some (.int .i64 a6)∧(w1.alloc (.cells #[.int .i64 a0,.int .i64 a1,.int .i64 a2,.int .i64 a3,.int .i64 a4,.int .i64 a5,.int .i64 a6,.int .i64 a7] 162)).drew.cell? ⟨w.heap.size,7,none⟩=some (.int .i64 a7):=⟨(hqa _ _ hT1lt).trans t1,(hqa _ _ hB1lt).trans e0,(hqa _ _ hB1lt).trans e1,(hqa _ _ hB1lt).trans e2,(hqa _ _ hB1lt).trans e3,(hqa _ _ hB1lt).trans e4,(hqa _ _ hB1lt).trans e5,(hqa _ _ hB1lt).trans e6,(hqa _ _ hB1lt).trans e7⟩
 have hT2:=(hg2.block T (hT1.below hgb hT1lt).lt (fun e=>afl hLa (hT1.below hgb hT1lt) (Option.some.inj e).symm)).trans (hT1.below hgb hT1lt)
 have hB2:=(hg2.block w.heap.size (hB1.below hgb hB1lt).lt (fun e=>afl hLa (hB1.below hgb hB1lt) (Option.some.inj e).symm)).trans (hB1.below hgb hB1lt)
 have hBk2:Blk w2 w.heap.size 162 #[.int .i64 a0,.int .i64 a1,.int .i64 a2,.int .i64 a3,.int .i64 a4,.int .i64 a5,.int .i64 a6,.int .i64 a7]:=hB2
 have hTk2:Blk w2 T 118 #[.map (some me),.map (some ml)]:=hT2
 have hS2:w2.cell? ⟨T,1,none⟩=some (.map (some ml))∧w2.cell? ⟨w.heap.size,0,none⟩=some (.int .i64 a0)∧w2.cell? ⟨w.heap.size,1,none⟩=some (.int .i64 a1)∧w2.cell? ⟨w.heap.size,2,none⟩=some (.int .i64 a2)∧w2.cell? ⟨w.heap.size,3,none⟩=some (.int .i64 a3)∧w2.cell? ⟨w.heap.size,4,none⟩=some (.int .i64 a4)∧w2.cell? ⟨w.heap.size,5,none⟩=some (.int .i64 a5)∧w2.cell? ⟨w.heap.size,6,none⟩=some (.int .i64 a6)∧w2.cell? ⟨w.heap.size,7,none⟩=some (.int .i64 a7):=⟨hTk2.cell 1,hBk2.cell 0,hBk2.cell 1,hBk2.cell 2,hBk2.cell 3,hBk2.cell 4,hBk2.cell 5,hBk2.cell 6,hBk2.cell 7⟩
 have HSa:Hid ((w1.alloc (.cells #[.int .i64 a0,.int .i64 a1,.int .i64 a2,.int .i64 a3,.int .i64 a4,.int .i64 a5,.int .i64 a6,.int .i64 a7] 162)).drew.cell? ⟨T,1,none⟩=some (.map (some ml))∧(w1.alloc (.cells #[.int .i64 a0,.int .i64 a1,.int .i64 a2,.int .i64 a3,.int .i64 a4,.int .i64 a5,.int .i64 a6,.int .i64 a7] 162)).drew.cell? ⟨w.heap.size,0,none⟩=some (.int .i64 a0)∧(w1.alloc (.cells #[.int .i64 a0,.int .i64 a1,.int .i64 a2,.int .i64 a3,.int .i64 a4,.int .i64 a5,.int .i64 a6,.int .i64 a7] 162)).drew.cell? ⟨w.heap.size,1,none⟩=some (.int .i64 a1)∧(w1.alloc (.cells #[.int .i64 a0,.int .i64 a1,.int .i64 a2,.int .i64 a3,.int .i64 a4,.int .i64 a5,.int .i64 a6,.int .i64 a7] 162)).drew.cell? ⟨w.heap.size,2,none⟩=some (.int .i64 a2)∧(w1.alloc (.cells #[.int .i64 a0,.int .i64 a1,.int .i64 a2,.int .i64 a3,.int .i64 a4,.int .i64 a5,.int .i64 a6,.int .i64 a7] 162)).drew.cell? ⟨w.heap.size,3,none⟩=some (.int .i64 a3)∧(w1.alloc (.cells #[.int .i64 a0,.int .i64 a1,.int .i64 a2,.int .i64 a3,.int .i64 a4,.int .i64 a5,.int .i64 a6,.int .i64 a7] 162)).drew.cell? ⟨w.heap.size,4,none⟩=some (.int .i64 a4)∧(w1.alloc (.cells #[.int .i64 a0,.int .i64 a1,.int .i64 a2,.int .i64 a3,.int .i64 a4,.int .i64 a5,.int .i64 a6,.int .i64 a7] 162)).drew.cell? ⟨w.heap.size,5,none⟩=some (.int .i64 a5)∧(w1.alloc (.cells #[.int .i64 a0,.int .i64 a1,.int .i64 a2,.int .i64 a3,.int .i64 a4,.int .i64 a5,.int .i64 a6,.int .i64 a7] 162)).drew.cell? ⟨w.heap.size,6,none⟩=some (.int .i64 a6)∧(w1.alloc (.cells #[.int .i64 a0,.int .i64 a1,.int .i64 a2,.int .i64 a3,.int .i64 a4,.int .i64 a5,.int .i64 a6,.int .i64 a7] 162)).drew.cell? ⟨w.heap.size,7,none⟩=some (.int .i64 a7)):=hSa
 have HS2:Hid (w2.cell? ⟨T,1,none⟩=some (.map (some ml))∧w2.cell? ⟨w.heap.size,0,none⟩=some (.int .i64 a0)∧w2.cell? ⟨w.heap.size,1,none⟩=some (.int .i64 a1)∧w2.cell? ⟨w.heap.size,2,none⟩=some (.int .i64 a2)∧w2.cell? ⟨w.heap.size,3,none⟩=some (.int .i64 a3)∧w2.cell? ⟨w.heap.size,4,none⟩=some (.int .i64 a4)∧w2.cell? ⟨w.heap.size,5,none⟩=some (.int .i64 a5)∧w2.cell? ⟨w.heap.size,6,none⟩=some (.int .i64 a6)∧w2.cell? ⟨w.heap.size,7,none⟩=some (.int .i64 a7)):=hS2
 clear hSa hS2 hT2 hB2 hBk2 hTk2 hqa
 have hkc:KC w w2:=fun j t cs hj=>by
  have q0:Blk W j t cs:=hj.below hb0 hj.lt
  have q1:Blk w1 j t cs:=(hgW.block j q0.lt (fun e=>agj ht0.ents q0 (Option.some.inj e).symm)).trans q0
  have q2:=q1.below hgb q1.lt
  exact(hg2.block j q2.lt (fun e=>afl hLa q2 (Option.some.inj e).symm)).trans q2
 have HKC:Hid (KC w w2):=hkc
 clear hkc
 have HE:Hid (∃val',TabAt w2 T me ml val' (E++[(p,l)])):=hend
 generalize ab0 E a0=Lg at hl1 hl2 hup2 hL8
 generalize p.length=kk at hup2 hk8 hsz
 clear hend hL2 hp
 refine wp_region_held_drew (S:=fun x=>x.cell? ⟨T,1,none⟩=some (.map (some ml))∧x.cell? ⟨w.heap.size,0,none⟩=some (.int .i64 a0)∧x.cell? ⟨w.heap.size,1,none⟩=some (.int .i64 a1)∧x.cell? ⟨w.heap.size,2,none⟩=some (.int .i64 a2)∧x.cell? ⟨w.heap.size,3,none⟩=some (.int .i64 a3)∧x.cell? ⟨w.heap.size,4,none⟩=some (.int .i64 a4)∧x.cell? ⟨w.heap.size,5,none⟩=some (.int .i64 a5)∧x.cell? ⟨w.heap.size,6,none⟩=some (.int .i64 a6)∧x.cell? ⟨w.heap.size,7,none⟩=some (.int .i64 a7)) (by kernel_rfl) ⟨t1,e0,e1,e2,e3,e4,e5,e6,e7⟩ (fun hHeld=> ?_)
 refine aac (i:=0) (some 12) (v:= ?v0) rfl rfl (by kernel_rfl) (by kernel_rfl) (by kernel_rfl) (fun _ _ _ h=>h) (Or.inl ⟨by kernel_rfl,?hy0⟩) (by assumption) ?rest0
 case hy0=>(intro w hSw;(try dsimp only at hSw);obtain⟨s0,s1,s2,s3,s4,s5,s6,s7,s8⟩:=hSw;go_simp;first | done | with_reducible rfl)
 try simp only[Act.put,List.setIfInBounds_toArray,List.set_cons_zero,List.set_cons_succ]
 refine aac (i:=1) (some 13) (v:= ?v1) rfl rfl (by kernel_rfl) (by kernel_rfl) (by kernel_rfl) (fun _ _ _ h=>h) (Or.inl ⟨by kernel_rfl,?hy1⟩) (by assumption) ?rest1
 case hy1=>(intro w hSw;(try dsimp only at hSw);obtain⟨s0,s1,s2,s3,s4,s5,s6,s7,s8⟩:=hSw;go_simp;first | done | with_reducible rfl)
 try simp only[Act.put,List.setIfInBounds_toArray,List.set_cons_zero,List.set_cons_succ]
 refine aac (i:=2) (some 14) (v:= ?v2) rfl rfl (by kernel_rfl) (by kernel_rfl) (by kernel_rfl) (fun _ _ _ h=>h) (Or.inl ⟨by kernel_rfl,?hy2⟩) (by assumption) ?rest2
 case hy2=>(intro w hSw;(try dsimp only at hSw);obtain⟨s0,s1,s2,s3,s4,s5,s6,s7,s8⟩:=hSw;go_simp;first | done | with_reducible rfl)
 try simp only[Act.put,List.setIfInBounds_toArray,List.set_cons_zero,List.set_cons_succ]
 refine aac (i:=3) (some 15) (v:= ?v3) rfl rfl (by kernel_rfl) (by kernel_rfl) (by kernel_rfl) (fun _ _ _ h=>h) (Or.inl ⟨by kernel_rfl,?hy3⟩) (by assumption) ?rest3
 case hy3=>(intro w hSw;(try dsimp only at hSw);obtain⟨s0,s1,s2,s3,s4,s5,s6,s7,s8⟩:=hSw;go_simp;first | done | with_reducible rfl)
 try simp only[Act.put,List.setIfInBounds_toArray,List.set_cons_zero,List.set_cons_succ]
 refine aac (i:=4) (some 16) (v:= ?v4) rfl rfl (by kernel_rfl) (by kernel_rfl) (by kernel_rfl) (fun _ _ _ h=>h) (Or.inl ⟨by kernel_rfl,?hy4⟩) (by assumption) ?rest4
 case hy4=>(intro w hSw;(try dsimp only at hSw);obtain⟨s0,s1,s2,s3,s4,s5,s6,s7,s8⟩:=hSw;go_simp;first | done | with_reducible rfl)
 try simp only[Act.put,List.setIfInBounds_toArray,List.set_cons_zero,List.set_cons_succ]
 refine aac (i:=5) (some 17) (v:= ?v5) rfl rfl (by kernel_rfl) (by kernel_rfl) (by kernel_rfl) (fun _ _ _ h=>h) (Or.inl ⟨by kernel_rfl,?hy5⟩) (by assumption) ?rest5
 case hy5=>(intro w hSw;(try dsimp only at hSw);obtain⟨s0,s1,s2,s3,s4,s5,s6,s7,s8⟩:=hSw;go_simp;first | done | with_reducible rfl)
 try simp only[Act.put,List.setIfInBounds_toArray,List.set_cons_zero,List.set_cons_succ]
 refine aac (i:=6) (some 18) (v:= ?v6) rfl rfl (by kernel_rfl) (by kernel_rfl) (by kernel_rfl) (fun _ _ _ h=>h) (Or.inl ⟨by kernel_rfl,?hy6⟩) (by assumption) ?rest6
 case hy6=>(intro w hSw;(try dsimp only at hSw);obtain⟨s0,s1,s2,s3,s4,s5,s6,s7,s8⟩:=hSw;go_simp;first | done | with_reducible rfl)
 try simp only[Act.put,List.setIfInBounds_toArray,List.set_cons_zero,List.set_cons_succ]
 refine aac (i:=7) (some 19) (v:= ?v7) rfl rfl (by kernel_rfl) (by kernel_rfl) (by kernel_rfl) (fun _ _ _ h=>h) (Or.inl ⟨by kernel_rfl,?hy7⟩) (by assumption) ?rest7
 case hy7=>(intro w hSw;(try dsimp only at hSw);obtain⟨s0,s1,s2,s3,s4,s5,s6,s7,s8⟩:=hSw;go_simp;first | done | with_reducible rfl)
 try simp only[Act.put,List.setIfInBounds_toArray,List.set_cons_zero,List.set_cons_succ]
 refine aac (i:=8) (some 20) (v:= ?v8) rfl rfl (by kernel_rfl) (by kernel_rfl) (by kernel_rfl) (fun _ _ _ h=>h) (Or.inl ⟨by kernel_rfl,?hy8⟩) (by assumption) ?rest8
 case hy8=>(intro w hSw;(try dsimp only at hSw);obtain⟨s0,s1,s2,s3,s4,s5,s6,s7,s8⟩:=hSw;go_simp;first | done | with_reducible rfl)
 try simp only[Act.put,List.setIfInBounds_toArray,List.set_cons_zero,List.set_cons_succ]
 refine aac (i:=9) (some 21) (v:= ?v9) rfl rfl (by kernel_rfl) (by kernel_rfl) (by kernel_rfl) (fun _ _ _ h=>h) (Or.inl ⟨by kernel_rfl,?hy9⟩) (by assumption) ?rest9
 case hy9=>(intro w hSw;(try dsimp only at hSw);obtain⟨s0,s1,s2,s3,s4,s5,s6,s7,s8⟩:=hSw;go_simp;first | done | with_reducible rfl)
 try simp only[Act.put,List.setIfInBounds_toArray,List.set_cons_zero,List.set_cons_succ]
 refine aac (i:=10) (some 22) (v:= ?v10) rfl rfl (by kernel_rfl) (by kernel_rfl) (by kernel_rfl) (fun _ _ _ h=>h) (Or.inl ⟨by kernel_rfl,?hy10⟩) (by assumption) ?rest10
 case hy10=>(intro w hSw;(try dsimp only at hSw);obtain⟨s0,s1,s2,s3,s4,s5,s6,s7,s8⟩:=hSw;go_simp;first | done | with_reducible rfl)
 try simp only[Act.put,List.setIfInBounds_toArray,List.set_cons_zero,List.set_cons_succ]
 refine aac (i:=11) (some 23) (v:= ?v11) rfl rfl (by kernel_rfl) (by kernel_rfl) (by kernel_rfl) (fun _ _ _ h=>h) (Or.inl ⟨by kernel_rfl,?hy11⟩) (by assumption) ?rest11
 case hy11=>(intro w hSw;(try dsimp only at hSw);obtain⟨s0,s1,s2,s3,s4,s5,s6,s7,s8⟩:=hSw;go_simp;first | done | with_reducible rfl)
 try simp only[Act.put,List.setIfInBounds_toArray,List.set_cons_zero,List.set_cons_succ]
 refine aac (i:=13) (some 25) (v:= ?v13) rfl rfl (by kernel_rfl) (by kernel_rfl) (by kernel_rfl) (fun _ _ _ h=>h) (Or.inl ⟨by kernel_rfl,?hy13⟩) (by assumption) ?rest13
 case hy13=>(intro w hSw;(try dsimp only at hSw);obtain⟨s0,s1,s2,s3,s4,s5,s6,s7,s8⟩:=hSw;go_simp;first | done | with_reducible rfl)
 try simp only[Act.put,List.setIfInBounds_toArray,List.set_cons_zero,List.set_cons_succ]
 refine wpAnyH_ready (rs:=[12,14]) (by kernel_rfl) (by simp) ?_
 refine AllReadyH.cons rfl (fun K hK=> ?_) (AllReadyH.cons rfl (fun K hK=> ?_) AllReadyH.nil)
 ·go_simp
  refine hK.out _ _ hHeld (fun hHeld3=> ?_)
  clear hK K
  refine wpAnyH_ready (rs:=[14]) (by kernel_rfl) (by simp) ?_
  refine AllReadyH.cons rfl (fun K hK=> ?_) AllReadyH.nil
  go_simp
  go_wp2_with (go_at_call 88;refine(hsz _).mono ?_;rintro e wA ⟨rfl,rfl⟩)
  refine hK.out _ _ HSa.out (fun hHeld4=> ?_)
  clear hK K
  refine aac (i:=15) (some 27) (v:= ?vp15) rfl rfl (by kernel_rfl) (by kernel_rfl) (by kernel_rfl) (fun _ _ _ h=>h) (Or.inl ⟨by kernel_rfl,?hyp15⟩) (by assumption) ?restp15
  case hyp15=>(intro w hSw;(try dsimp only at hSw);obtain⟨s0,s1,s2,s3,s4,s5,s6,s7,s8⟩:=hSw;go_simp;first | done | with_reducible rfl)
  try simp only[Act.put,List.setIfInBounds_toArray,List.set_cons_zero,List.set_cons_succ]
  refine wpAnyH_ready (rs:=[16]) (by kernel_rfl) (by simp) ?_
  refine AllReadyH.cons rfl (fun K hK=> ?_) AllReadyH.nil
  go_simp
  refine hK.out _ _ HS2.out (fun hHeld5=> ?_)
  clear hK K
  refine wpAnyH_done (by kernel_rfl) ?_ _
  go_wp2
  go_end0
  exact⟨rfl,HE.out,hbel2,HKC.out⟩
 ·go_simp
  go_wp2_with (go_at_call 88;refine(hsz _).mono ?_;rintro e wA ⟨rfl,rfl⟩)
  refine hK.out _ _ HSa.out (fun hHeld4=> ?_)
  clear hK K
  refine wpAnyH_ready (rs:=[12]) (by kernel_rfl) (by simp) ?_
  refine AllReadyH.cons rfl (fun K hK=> ?_) AllReadyH.nil
  go_simp
  refine hK.out _ _ hHeld4 (fun hHeld3=> ?_)
  clear hK K
  refine aac (i:=15) (some 27) (v:= ?vq15) rfl rfl (by kernel_rfl) (by kernel_rfl) (by kernel_rfl) (fun _ _ _ h=>h) (Or.inl ⟨by kernel_rfl,?hyq15⟩) (by assumption) ?restq15
  case hyq15=>(intro w hSw;(try dsimp only at hSw);obtain⟨s0,s1,s2,s3,s4,s5,s6,s7,s8⟩:=hSw;go_simp;first | done | with_reducible rfl)
  try simp only[Act.put,List.setIfInBounds_toArray,List.set_cons_zero,List.set_cons_succ]
  refine wpAnyH_ready (rs:=[16]) (by kernel_rfl) (by simp) ?_
  refine AllReadyH.cons rfl (fun K hK=> ?_) AllReadyH.nil
  go_simp
  refine hK.out _ _ HS2.out (fun hHeld5=> ?_)
  clear hK K
  refine wpAnyH_done (by kernel_rfl) ?_ _
  go_wp2
  go_end0
  exact⟨rfl,HE.out,hbel2,HKC.out⟩
def ah5 (E:List Ent):Option Ent→Int×List Ent
 | none=>(60,E)
 | some x=>if x.2.all aah then if akf E x.1 then (61,E) else if 4096≤E.length then (2,E) else (0,E++[x]) else (62,E)
theorem ayq (s:List UInt8)(r:List (List UInt8))(n:Int)(acc:List Ent)(h:aav s=false):aey (s::r) n acc=if (ah5 acc (aee s)).1=0 then aey r (n+1) (ah5 acc (aee s)).2 else .error ((ah5 acc (aee s)).1,n+1):=by
 rw[aey]
 rw[if_neg (by rw[h];simp)]
 cases aee s with
 | none=>rfl
 | some x=>
  simp only[ah5]
  split
  ·split
   ·rfl
   ·split
    ·rfl
    ·rfl
  ·rfl
set_option maxHeartbeats 2000000 in
set_option maxRecDepth 20000 in
theorem a2g (base T me ml:Nat)(val:List Int→Value)(E:List Ent)(hE:E.length≤4096)(s:ByteArray)(m:Int)(w:World)(hs:s.size≤65536)(hm:w.cell? ⟨2,0,none⟩=some (.int .i64 m))(hbm:base≤me)(hbl:base≤ml)(ht:TabAt w T me ml val E):
  Calls Tryz.prog 51 #[.pointer (some ⟨T,0,none⟩),.string s] w fun e w'=>e=.returned (.int .i64 (ah5 E (aee s.data.toList)).1)∧(∃val',TabAt w' T me ml val' (ah5 E (aee s.data.toList)).2)∧Below base w w'∧KC w w':=by
 have hre:=ao5 s m w hs hm
 have hok: ∀x,aee s.data.toList=some x→adp x.1=true∧1≤x.2.length∧x.2.length≤16:=fun x hx=>aub hx
 have hmw:=ht.ents.lt
 have hbw:base≤w.heap.size:=by omega
 generalize aee s.data.toList=R at hre hok⊢
 cases R with
 | none=>
  have hR:ah5 E none=(60,E):=rfl
  rw[hR]
  clear hR hok
  go_enter Tryz.func51,Tryz.ntmps51
  go_wp2_with fail
  refine hre.mono ?_
  rintro _ w1 ⟨hb1,a0,a1,a2,a3,a4,a5,a6,a7,rfl⟩
  have hb2:=hb1.alloc hb1.size (.cells #[.int .i64 a0,.int .i64 a1,.int .i64 a2,.int .i64 a3,.int .i64 a4,.int .i64 a5,.int .i64 a6,.int .i64 a7] 162)
  have ht2:=ht.below hb2
  go_wp2
  go_ret
  exact⟨rfl,⟨val,ht2⟩,hb2.mono hbw,KC.of_below hb2⟩
 | some x=>
  obtain⟨p,l⟩:=x
  obtain⟨hp,hl0,hl16⟩:=hok (p,l) rfl
  simp only at hp hl0 hl16
  obtain⟨a0,a1,a2,a3,a4,a5,a6,a7,hp8⟩:=arq (ael (abf hp).2)
  have hrow:ang (acu p)=.agg #[.int .i64 a0,.int .i64 a1,.int .i64 a2,.int .i64 a3,.int .i64 a4,.int .i64 a5,.int .i64 a6,.int .i64 a7]:=by rw[hp8];rfl
  have hallB:ar5 l=l.all aah:=by
   unfold ar5
   rw[show decide (1≤l.length)=true by simp;omega,show decide (l.length≤16)=true by simp;omega]
   try rfl
  have hTR:ah5 E (some (p,l))=if l.all aah then if akf E p then (61,E) else if 4096≤E.length then (2,E) else (0,E++[(p,l)]) else (62,E):=rfl
  generalize hq:ah5 E (some (p,l))=q at hTR⊢
  have HTR:Hid (q=if l.all aah then if akf E p then (61,E) else if 4096≤E.length then (2,E) else (0,E++[(p,l)]) else (62,E)):=hTR
  clear hTR hq hok
  go_enter Tryz.func51,Tryz.ntmps51
  go_wp2_with fail
  refine hre.mono ?_
  rintro _ w1 ⟨hb1,ae,ne,ce,rfl,hown⟩
  simp only[hrow]
  have hb2:=hb1.alloc hb1.size (.cells #[.int .i64 a0,.int .i64 a1,.int .i64 a2,.int .i64 a3,.int .i64 a4,.int .i64 a5,.int .i64 a6,.int .i64 a7] 162)
  have ht2:=ht.below hb2
  have hB2:=Blk.new w1 162 #[.int .i64 a0,.int .i64 a1,.int .i64 a2,.int .i64 a3,.int .i64 a4,.int .i64 a5,.int .i64 a6,.int .i64 a7]
  have hel2:Els (w1.alloc (.cells #[.int .i64 a0,.int .i64 a1,.int .i64 a2,.int .i64 a3,.int .i64 a4,.int .i64 a5,.int .i64 a6,.int .i64 a7] 162)).heap.size (w1.alloc (.cells #[.int .i64 a0,.int .i64 a1,.int .i64 a2,.int .i64 a3,.int .i64 a4,.int .i64 a5,.int .i64 a6,.int .i64 a7] 162)) (.slice ae ne ce) l:=(hown.els.below ((Below.refl w1.heap.size w1).alloc (Nat.le_refl _) _) (Nat.le_refl _)).mono (by simp)
  clear hre ht
  go_upto_region 4 with fail
  generalize hW:(w1.alloc (.cells #[.int .i64 a0,.int .i64 a1,.int .i64 a2,.int .i64 a3,.int .i64 a4,.int .i64 a5,.int .i64 a6,.int .i64 a7] 162))=W at hb2 ht2 hB2 hel2⊢
  clear hW hown hb1
  have har:=akh W.heap.size (.slice ae ne ce) l W (Nat.le_refl _) hel2 (by omega)
  rw[hallB] at har
  have hlt2:=hB2.lt
  cases hall:l.all aah with
  | false=>
   have hQ:q=(62,E):=by rw[HTR.out,hall];rfl
   rw[hall] at har
   subst hQ
   clear HTR hallB hall
   go_wp2_with fail
   refine har.mono ?_
   rintro _ w3 ⟨rfl,hb3⟩
   have ht3:=ht2.below hb3
   go_wp2
   go_ret
   exact⟨rfl,⟨val,ht3⟩,(hb2.trans (hb3.mono hb2.size)).mono hbw,KC.of_below (hb2.trans (hb3.mono hb2.size))⟩
  | true=>
   rw[hall] at har
   have hTR2:q=if akf E p then (61,E) else if 4096≤E.length then (2,E) else (0,E++[(p,l)]):=by rw[HTR.out,hall];rfl
   have hx:EntOk (p,l):=⟨hp,hl0,hl16,hall⟩
   have HX:Hid (EntOk (p,l)):=hx
   have HTR2:Hid (q=if akf E p then (61,E) else if 4096≤E.length then (2,E) else (0,E++[(p,l)])):=hTR2
   clear HTR hallB hall hTR2 hx
   go_wp2_with fail
   refine har.mono ?_
   rintro _ w3 ⟨rfl,hb3⟩
   have ht3:=ht2.below hb3
   have hel3:=(hel2.below hb3 (Nat.le_refl _)).mono hb3.size
   have hB3:=hB2.below hb3 hlt2
   have hbw3:=(hb2.trans (hb3.mono hb2.size)).mono hbw
   have hkc3:KC w w3.drew:=KC.of_below (hb2.trans (hb3.mono hb2.size)).drew
   have HKC:Hid (KC w w3.drew):=hkc3
   clear hkc3
   have hlk:=(show MapR w3.drew me E.length (aml val E) from ht3.ents.block rfl).look_ok (aya _) (aqc hp)
   rw[hrow] at hlk
   have hef:aml val E (acu p)=if akf E p then some (val (acu p)) else none:=by unfold aml;rw[al4 ht3.ok hp]
   rw[hef] at hlk
   have t0:w3.cell? ⟨T,0,none⟩=some (.map (some me)):=ht3.blk.cell 0
   obtain⟨c0,c1,c2,c3,c4,c5,c6,c7,_⟩:=hB3.c8
   clear hb3 hel2 hB2 ht2 hb2 har
   go_upto_region 6 with fail
   cases hh:akf E p with
   | true=>
    have hQ:q=(61,E):=by rw[HTR2.out,hh];rfl
    rw[hh] at hlk
    simp only[if_true,Option.getD,Option.isSome] at hlk
    generalize val (acu p)=vv at hlk
    subst hQ
    have ht4:TabAt w3.drew T me ml val E:=⟨ht3.blk,ht3.ents.block rfl,ht3.longs.block rfl,ht3.ne,ht3.els,ht3.ok⟩
    clear HTR2 hh hef ht3
    go_region
    go_wp2
    go_ret
    exact⟨rfl,⟨val,ht4⟩,hbw3.drew,HKC.out⟩
   | false=>
    have hTR3:q=if 4096≤E.length then (2,E) else (0,E++[(p,l)]):=by rw[HTR2.out,hh];rfl
    have HTR3:Hid (q=if 4096≤E.length then (2,E) else (0,E++[(p,l)])):=hTR3
    have HH:Hid (akf E p=false):=hh
    rw[hh] at hlk
    simp only[Bool.false_eq_true,if_false,Option.getD,Option.isSome] at hlk
    clear HTR2 hh hef hTR3
    have ht4:TabAt w3.drew T me ml val E:=⟨ht3.blk,ht3.ents.block rfl,ht3.longs.block rfl,ht3.ne,ht3.els,ht3.ok⟩
    have hel4:Els w3.drew.heap.size w3.drew (.slice ae ne ce) l:=hel3
    have hbw4:Below base w w3.drew:=hbw3.drew
    have hB4:Blk w3.drew w1.heap.size 162 #[.int .i64 a0,.int .i64 a1,.int .i64 a2,.int .i64 a3,.int .i64 a4,.int .i64 a5,.int .i64 a6,.int .i64 a7]:=hB3
    go_region
    go_upto_region 9 with fail
    clear hlk t0 c0 c1 c2 c3 c4 c5 c6 c7 hB3 hbw3 hel3 ht3
    generalize w3.drew=W4 at ht4 hel4 hbw4 hB4 HKC⊢
    have t0:W4.cell? ⟨T,0,none⟩=some (.map (some me)):=ht4.blk.cell 0
    obtain⟨c0,c1,c2,c3,c4,c5,c6,c7,_⟩:=hB4.c8
    have hlen:=fun ty=>ht4.ents.len ty
    by_cases hbig:4096≤E.length
    ·have hQ:q=(2,E):=by rw[HTR3.out,if_pos hbig]
     subst hQ
     go_wp2
     go_ret
     exact⟨rfl,⟨val,ht4⟩,hbw4,HKC.out⟩
    ·have hQ:q=(0,E++[(p,l)]):=by rw[HTR3.out,if_neg hbig]
     subst hQ
     have hadd:=a6z base T me ml val E p l HX.out HH.out (by omega) a0 a1 a2 a3 a4 a5 a6 a7 hp8 ae ne ce W4 hbm hbl ht4 hel4
     clear hp8 hrow
     go_wp2_with fail
     refine hadd.mono ?_
     rintro _ w5 ⟨rfl,ht5,hb5,hk5⟩
     go_wp2
     go_ret
     exact⟨rfl,ht5,hbw4.trans hb5,HKC.out.trans hk5⟩
end Go.Proofs.YtfhpgmlfgjfknaaGreatDoor
