/- Contracts and lemmas (nothing is claimed here). -/
import Derived.Test.YtfhpgmlfgjfknaaGreatDoorJ2
import Derived.Deep.RegionHeldLaw
import Derived.Deep.AppendLies
import Derived.Deep.CutRange
namespace Go.Proofs.YtfhpgmlfgjfknaaGreatDoor
open Go.RowKit Go.Vf Go.Maps
theorem a7w:(Tryz.prog.info? 139).map (fun i=>(i.zero,i.size,i.bytes))=some (some (.agg #[.int .i64 0,.int .i64 0]),2,16):=by kernel_rfl
abbrev ae5 (c:Int)(p e:Value):Value:=.agg #[.int .i64 c,p,e]
abbrev a8o:Value:=ae5 0 (.slice none 0 0) (.slice none 0 0)
theorem am2 (w:World):(zeroValue 141).run Tryz.prog w=.ok a8o w:=by kernel_rfl
def ac1 (L:List Mk):List Value:=L.flatMap fun m=>[.int .i64 m.point,.int .i64 m.line]
structure RD (w:World)(base b bm:Nat)(line:Int)(vp:Value)(pv:Int→Value)(L:List Mk):Prop where
 blk:w.heap[b]? =some (.cells #[.int .i64 line,.map (some bm),vp] 92 (0,0))
 bge:base≤b
 mge:base≤bm
 mp:MapAt w bm L.length (fun p=>(aau L p).map fun m=>ae5 m.cls (pv p) (.slice none 0 0))
 parts: ∀m∈L,IOwn w base (pv m.point) m.parts
 places:w.ownsRow base 139 2 vp L.length (ac1 L)
theorem RD.c0 {w:World}{base b bm:Nat}{line:Int}{vp:Value}{pv:Int→Value}{L:List Mk}(h:RD w base b bm line vp pv L):w.cell? ⟨b,0,none⟩=some (.int .i64 line):=by simp[World.cell?,h.blk]
theorem RD.c1 {w:World}{base b bm:Nat}{line:Int}{vp:Value}{pv:Int→Value}{L:List Mk}(h:RD w base b bm line vp pv L):w.cell? ⟨b,1,none⟩=some (.map (some bm)):=by simp[World.cell?,h.blk]
theorem RD.c2 {w:World}{base b bm:Nat}{line:Int}{vp:Value}{pv:Int→Value}{L:List Mk}(h:RD w base b bm line vp pv L):w.cell? ⟨b,2,none⟩=some vp:=by simp[World.cell?,h.blk]
theorem RD.fz {w:World}{base b bm:Nat}{line:Int}{vp:Value}{pv:Int→Value}{L:List Mk}(h:RD w base b bm line vp pv L)(j:Nat):w.frozen? ⟨b,j,none⟩=false:=by simp[World.frozen?,h.blk]
theorem RD.below {w w':World}{base b bm:Nat}{line:Int}{vp:Value}{pv:Int→Value}{L:List Mk}(h:RD w base b bm line vp pv L)(hb:Below w.heap.size w w'):RD w' base b bm line vp pv L:=
 ⟨(hb.block b (Array.getElem?_eq_some_iff.1 h.blk).1).trans h.blk,h.bge,h.mge,h.mp.below hb h.mp.lt,fun m hm=>aad (h.parts m hm) hb,aad h.places hb⟩
def a48 (base b bm:Nat)(line:Int)(L:List Mk)(s:List UInt8)(w:World)(e:Ending)(w':World):Prop:=
 Below base w w'∧
 match acj s with
 | none=>e=ajt 40 line
 | some (p,k,l)=>
  if L.any (fun m=>m.point==p) then e=ajt 41 line
  else if 4096≤L.length then e=ajt 2 line
  else e=.returned (.tuple #[])∧(∃vp pv,RD w' base b bm line vp pv (L++[⟨line,p,k,l⟩]))∧ ∀j cs,Blk w j 9 cs→Blk w' j 9 cs
theorem aza {s:List UInt8}{p:Int}(h:abe s=some p):InI p∧aed p=true:=by
 unfold abe at h
 split at h
 ·split at h
  ·cases h
  ·split at h
   ·rename_i hm
    simp only[Option.some.injEq] at h;subst h
    refine⟨?_,hm⟩
    simp[aed] at hm
    unfold InI;omega
   ·cases h
 ·cases h
theorem ady {W x y:World}{A:Prop}(h:A∧Below W.heap.size W x)(h2:Below x.heap.size x y):Below W.heap.size x y:=h2.mono h.2.size
theorem aje {W x:World}{A:Prop}{o:Obj}(h:A∧Below W.heap.size W x):Below W.heap.size x (x.alloc o):=(Below.refl _ _).alloc h.2.size _
theorem af7 {B:Nat}{x:World}{o o':Obj}(h:B≤x.heap.size):Below B (x.alloc o) (x.alloc o'):=
 ⟨rfl,rfl,rfl,by simp,fun k hk=>(Below.heap_alloc x o' k (by omega)).trans (Below.heap_alloc x o k (by omega)).symm⟩
theorem agt {B:Nat}{x:World}{o o':Obj}(h:B≤x.heap.size):Below B (x.alloc o).drew (x.alloc o').drew:=af7 (x:=x.drew) h
theorem abd {B b:Nat}{x:World}{v0 v1 v2:Value}(h:B≤b):Below B x (((x.setCell ⟨b,0,none⟩ v0).setCell ⟨b,1,none⟩ v1).setCell ⟨b,2,none⟩ v2):=
 (((Below.refl B x).setCell (p:=⟨b,0,none⟩) h _).setCell (p:=⟨b,1,none⟩) h _).setCell (p:=⟨b,2,none⟩) h _
theorem ar2 {W w3:World}{t:TypeId}{cs:Array Value}(h:Below (W.alloc (.cells cs t)).drew.heap.size (W.alloc (.cells cs t)).drew w3):Blk w3 W.heap.size t cs:=
 (h.block W.heap.size (by simp)).trans (Blk.new W t cs)
theorem abm {w:World}{b:Nat}{t:TypeId}{c0 c1 c2:Value}(h:Blk w b t #[c0,c1,c2]):(w.cell? ⟨b,0,none⟩=some c0∧w.cell? ⟨b,1,none⟩=some c1∧w.cell? ⟨b,2,none⟩=some c2)∧w.frozen? ⟨b,0,none⟩=false∧w.frozen? ⟨b,1,none⟩=false∧w.frozen? ⟨b,2,none⟩=false:=
 ⟨⟨h.cell 0,h.cell 1,h.cell 2⟩,h.frozen 0,h.frozen 1,h.frozen 2⟩
theorem aam {w:World}{base:Nat}{e:TypeId}{size:Nat}{v:Value}{k:Nat}{xs:List Value}(h:w.ownsRow base e size v k xs){p:Addr}(hp:p.block<base)(x:Value):(w.setCell p x).ownsRow base e size v k xs:=by
 refine⟨h.1,?_⟩
 rcases h.2 with hn | ⟨g,cap,cur,rfl,hb,hg,rest⟩
 ·exact .inl hn
 ·exact .inr ⟨g,cap,cur,rfl,hb,(Below.heap_setCell w p x g (by omega)).trans hg,rest⟩
theorem aax {w:World}{base:Nat}{e:TypeId}{size:Nat}{v:Value}{k:Nat}{xs:List Value}(h:w.ownsRow base e size v k xs): ∃a cap,v=.slice a k cap:=by
 rcases h.2 with ⟨rfl,rfl⟩ | ⟨g,cap,cur,rfl,_⟩
 ·exact⟨_,_,rfl⟩
 ·exact⟨_,_,rfl⟩
theorem aw4 {L:List Mk}{p:Int}(h:L.any (fun m=>m.point==p)=true): ∃m∈L,m.point=p∧aau L p=some m:=by
 unfold aau
 cases hf:L.find? (fun m=>m.point==p) with
 | none=>
  obtain⟨m,hm,hp⟩:=List.any_eq_true.1 h
  have:=List.find?_eq_none.1 hf m hm
  exact absurd hp this
 | some m=>exact⟨m,List.mem_of_find?_eq_some hf,by simpa using List.find?_some hf,rfl⟩
theorem atl {L:List Mk}{p:Int}(h:L.any (fun m=>m.point==p)=false):aau L p=none:=by
 unfold aau
 rw[List.find?_eq_none]
 intro m hm e
 rw[List.any_eq_false] at h
 exact h m hm e
theorem atk (L:List Mk)(m:Mk)(h:aau L m.point=none)(x:Int):aau (L++[m]) x=if x=m.point then some m else aau L x:=by
 unfold aau at h⊢
 rw[List.find?_append]
 by_cases e:x=m.point
 ·subst e
  rw[h,if_pos rfl]
  simp
 ·rw[if_neg e]
  have:(m.point==x)=false:=by simp;exact fun e'=>e e'.symm
  simp[this]
theorem aaq {w:World}{b bm n:Nat}{f:Int→Option Value}{t:TypeId}{cs:Array Value}{fr:Nat×Nat}(h:w.heap[b]? =some (.cells cs t fr))(hm:MapAt w bm n f):b≠bm:=by
 rintro rfl
 obtain⟨D,⟨es,clock,hb,_⟩,_⟩:=hm
 rw[hb] at h
 cases h
theorem ad6 {w w':World}{base:Nat}{e:TypeId}{size:Nat}{v:Value}{k:Nat}{xs:List Value}{bm n:Nat}{f:Int→Option Value}(h:w.ownsRow base e size v k xs)(hm:MapAt w bm n f)(hg:w.grownBy w' (some bm)):w'.ownsRow base e size v k xs:=by
 refine World.ownsRow.kept h hg ?_
 cases hv:v.ownBlock with
 | none=>exact .inl rfl
 | some j=>
  obtain⟨_,cs,fr,hj⟩:=aan h hv
  exact .inr (fun e=>aaq hj hm (by simpa using e))
theorem aa9 {w:World}{base:Nat}{e t:TypeId}{size k b:Nat}{v:Value}{xs:List Value}{cs:Array Value}(h:w.ownsRow base e size v k xs)(hb:Blk w b t cs)(hne:e≠t):some b≠v.ownBlock:=fun hv=>by
 obtain⟨_,c1,f1,g1⟩:=aan h hv.symm
 rw[show w.heap[b]? =_ from hb] at g1
 simp only[Option.some.injEq,Obj.cells.injEq] at g1
 exact hne g1.2.1.symm
theorem akb {w w':World}{b1 b2:Nat}{e1 e2:TypeId}{s1 s2 k1 k2:Nat}{v1 v2:Value}{x1 x2:List Value}(h1:w.ownsRow b1 e1 s1 v1 k1 x1)(h2:w.ownsRow b2 e2 s2 v2 k2 x2)(hne:e1≠e2)(hg:w.grownBy w' v2.ownBlock):w'.ownsRow b1 e1 s1 v1 k1 x1:=by
 refine World.ownsRow.kept h1 hg ?_
 cases hv:v1.ownBlock with
 | none=>exact .inl rfl
 | some j=>
  refine .inr (fun e=> ?_)
  obtain⟨_,c1,f1,g1⟩:=aan h1 hv
  obtain⟨_,c2,f2,g2⟩:=aan h2 e.symm
  rw[g1] at g2
  simp only[Option.some.injEq,Obj.cells.injEq] at g2
  exact hne g2.2.1
theorem aqp (L:List Mk)(m:Mk):ac1 (L++[m])=ac1 L++[.int .i64 m.point,.int .i64 m.line]:=by simp[ac1]
theorem afm {w w':World}{base:Nat}{e:TypeId}{size:Nat}{v:Value}{k:Nat}{xs:List Value}{bm n:Nat}{f:Int→Option Value}(h:w.ownsRow base e size v k xs)(hm:MapAt w bm n f)(hg:w.grownBy w' v.ownBlock):MapAt w' bm n f:=
 hm.kept hg (fun hv=>by
  obtain⟨_,cs,fr,hj⟩:=aan h hv.symm
  exact aaq hj hm rfl)
theorem RD.grow {w w7:World}{base b bm:Nat}{line:Int}{av:Option Addr}{cv:Nat}{pv:Int→Value}{L:List Mk}{p k:Int}{l:List Int}{pl:Value}{g cap:Nat}{f:Int→Option Value}{o:Obj}
  (hblk:Blk w b 92 #[.int .i64 line,.map (some bm),.slice av L.length cv]) (hbge:base≤b) (hmge:base≤bm) (hbase:base≤w.heap.size)
  (hmp:MapAt w bm (L.length+1) f) (hf:f=aux (fun p=>(aau L p).map fun m=>ae5 m.cls (pv p) (.slice none 0 0)) p (ae5 k pl (.slice none 0 0))) (hma:aau L p=none)
  (hparts: ∀m∈L,IOwn w base (pv m.point) m.parts) (hpl:IOwn w base pl l) (hplaces:w.ownsRow base 139 2 (.slice av L.length cv) L.length (ac1 L))
  (h7:w7.ownsRow base 139 2 (.slice (some ⟨g,0,none⟩) (L.length+1) cap) (L.length+1) (ac1 L++[.int .i64 p,.int .i64 line])) (hg7:(w.alloc o).grownBy w7 (Value.slice av L.length cv).ownBlock):
  Blk w7 b 92 #[.int .i64 line,.map (some bm),.slice av L.length cv]∧
  (∃vp pv',RD (w7.setCell ⟨b,2,none⟩ (.slice (some ⟨g,0,none⟩) (L.length+1) cap)) base b bm line vp pv' (L++[⟨line,p,k,l⟩]))∧Below base w (w7.setCell ⟨b,2,none⟩ (.slice (some ⟨g,0,none⟩) (L.length+1) cap))∧ ∀j cs,Blk w j 9 cs→Blk (w7.setCell ⟨b,2,none⟩ (.slice (some ⟨g,0,none⟩) (L.length+1) cap)) j 9 cs:=by
 have hpa:=World.ownsRow.alloc hplaces o
 have hba:Blk (w.alloc o) b 92 #[.int .i64 line,.map (some bm),.slice av L.length cv]:=(Below.heap_alloc w o b hblk.lt).trans hblk
 have hne:some b≠(Value.slice av L.length cv).ownBlock:=aa9 hpa hba (by decide)
 have hb7:Blk w7 b 92 #[.int .i64 line,.map (some bm),.slice av L.length cv]:=(hg7.block b hba.lt hne).trans hba
 have hset:=hb7.set 2 (.slice (some ⟨g,0,none⟩) (L.length+1) cap)
 have keep3: ∀ {v:Value} {zs:List Int},IOwn w base v zs→IOwn (w7.setCell ⟨b,2,none⟩ (.slice (some ⟨g,0,none⟩) (L.length+1) cap)) base v zs:=fun {v zs} h=>by
  have h1:=akb (World.ownsRow.alloc h o) hpa (by decide) hg7
  exact ownsRow_setCell_other h1 (a:=⟨b,2,none⟩) (fun e=>aa9 h1 hb7 (by decide) e.symm) _
 have hmp7:MapAt w7 bm (L.length+1) f:=afm hpa (hmp.alloc o) hg7
 refine⟨hb7,⟨.slice (some ⟨g,0,none⟩) (L.length+1) cap,fun x=>if x=p then pl else pv x,?_⟩,?_,?_⟩
 ·refine⟨by simpa[Blk] using hset,hbge,hmge,?_,?_,?_⟩
  ·have h1:=hmp7.setCell (a:=⟨b,2,none⟩) (fun e=>aaq hb7 hmp7 e.symm) (.slice (some ⟨g,0,none⟩) (L.length+1) cap)
   have e:f=fun x=>(aau (L++[⟨line,p,k,l⟩]) x).map fun m=>ae5 m.cls (if x=p then pl else pv x) (.slice none 0 0):=by
    funext x
    rw[hf,atk L ⟨line,p,k,l⟩ hma]
    simp only[aux]
    by_cases hx:x=p
    ·simp[hx]
    ·simp[hx]
   rw[List.length_append]
   rw[e] at h1
   exact h1
  ·intro m hm
   rcases List.mem_append.1 hm with hm | hm
   ·have hmp':m.point≠p:=fun e=>by
     have:=List.find?_eq_none.1 hma m hm
     simp[e] at this
    simp only[hmp',if_false]
    exact keep3 (hparts m hm)
   ·simp at hm;subst hm
    simp only[if_true]
    exact keep3 hpl
  ·rw[aqp,List.length_append]
   exact ownsRow_setCell_other h7 (a:=⟨b,2,none⟩) (fun e=>aa9 h7 hb7 (by decide) e.symm) _
 ·have h1:Below base w w7:=((Below.refl base w).alloc hbase o).grown hg7 (by simp;omega) (fun j hj=>(aan hpa hj).1)
  exact h1.setCell (p:=⟨b,2,none⟩) hbge _
 ·intro j cs hj
  have hja:Blk (w.alloc o) j 9 cs:=(Below.heap_alloc w o j hj.lt).trans hj
  have hj7:Blk w7 j 9 cs:=(hg7.block j hja.lt (aa9 hpa hja (by decide))).trans hja
  refine(Below.heap_setCell w7 ⟨b,2,none⟩ _ j ?_).trans hj7
  rintro rfl
  have e1:=(show w7.heap[j]? =_ from hj7).symm.trans hb7
  simp only[Option.some.injEq,Obj.cells.injEq] at e1
  exact absurd e1.2.1 (by decide)
def aus (W:World)(k:Int)(l:List Int)(v:Value)(wx:World):Prop:=
 ∃bM a3 n3 c3,v=.pointer (some ⟨bM,0,none⟩)∧W.heap.size≤bM∧Blk wx bM 141 #[.int .i64 k,.slice a3 n3 c3,.slice none 0 0]∧IOwn wx W.heap.size (.slice a3 n3 c3) l∧Below W.heap.size W wx
theorem aib {W w3:World}{k:Int}{l:List Int}{a3:Option Addr}{n3 c3 B:Nat}{A:Prop}(h:IOwn w3 B (.slice a3 n3 c3) l)(hB:W.heap.size≤B)(hs:W.heap.size≤w3.heap.size)
  (hS:A∧Below W.heap.size W (w3.alloc (.cells #[.int .i64 k,.slice a3 n3 c3,.slice none 0 0] 141))):aus W k l (.pointer (some ⟨w3.heap.size,0,none⟩)) (w3.alloc (.cells #[.int .i64 k,.slice a3 n3 c3,.slice none 0 0] 141)):=
 ⟨_,a3,n3,c3,rfl,hs,Blk.new _ _ _,(World.ownsRow.alloc (h.mono hB) _),hS.2⟩
theorem aia {W w3:World}{k:Int}{l:List Int}{a3:Option Addr}{n3 c3 B:Nat}{A:Prop}{z0 z1 z2:Value}(h:IOwn w3 B (.slice a3 n3 c3) l)(hB:W.heap.size<B)(hq:Blk w3 W.heap.size 141 #[z0,z1,z2])
  (hS:A∧Below W.heap.size W (((w3.setCell ⟨W.heap.size,0,none⟩ (.int .i64 k)).setCell ⟨W.heap.size,1,none⟩ (.slice a3 n3 c3)).setCell ⟨W.heap.size,2,none⟩ (.slice none 0 0))):
  aus W k l (.pointer (some ⟨W.heap.size,0,none⟩)) (((w3.setCell ⟨W.heap.size,0,none⟩ (.int .i64 k)).setCell ⟨W.heap.size,1,none⟩ (.slice a3 n3 c3)).setCell ⟨W.heap.size,2,none⟩ (.slice none 0 0)):=
 ⟨_,a3,n3,c3,rfl,Nat.le_refl _,hq.set3 _ _ _,IOwn.mono (aam (aam (aam h (p:=⟨W.heap.size,0,none⟩) hB _) (p:=⟨W.heap.size,1,none⟩) hB _) (p:=⟨W.heap.size,2,none⟩) hB _) (Nat.le_of_lt hB),hS.2⟩
set_option maxHeartbeats 4000000 in
set_option maxRecDepth 20000 in
theorem aqk (base b bm:Nat)(s:ByteArray)(line m:Int)(vp:Value)(pv:Int→Value)(L:List Mk)(w:World)(hs:s.size≤65536)(h0:2<base)(hm:w.cell? ⟨2,0,none⟩=some (.int .i64 m))(hL:L.length≤4096)
  (hbw:base≤w.heap.size) (hrd:RD w base b bm line vp pv L):
  Calls Tryz.prog 66 #[.pointer (some ⟨b,0,none⟩),.string s] w fun e w'=>a48 base b bm line L s.data.toList w e w':=by
 have hsl:s.data.toList.length=s.size:=(Lib.size_eq s).symm
 have hcs:=abj 59 s.data.toList
 obtain⟨av,cv,rfl⟩:=aax hrd.places
 have hblt:=(Array.getElem?_eq_some_iff.1 hrd.blk).1
 generalize hC:aa3 59 s.data.toList=C at hcs
 have HM:Hid (acj s.data.toList=akl C):=by show _=_;rw[acj,hC]
 by_cases h3:C.length=3
 ·match C,h3 with
  | [a,bb,c],_=>
  have ha:=hcs a (by simp)
  have hbb:=hcs bb (by simp)
  have hc:=hcs c (by simp)
  clear hcs
  go_enter Tryz.func66,Tryz.ntmps66
  go_wp2_with fail
  refine(ad3 59 s m _ hs hm).mono ?_
  rintro e w1 ⟨rfl,hst,hb1,hsz1⟩
  rw[hC] at hst⊢
  have hlt1:w.heap.size<w1.heap.size:=by omega
  clear hsz1
  have hrd1:=hrd.below hb1
  have hm1:w1.cell? ⟨2,0,none⟩=some (.int .i64 m):=(hb1.cell (p:=⟨2,0,none⟩) (by show 2<w.heap.size;omega)).trans hm
  have k0:=hst.cell (j:=0) (by simp)
  have k1:=hst.cell (j:=1) (by simp)
  have k2:=hst.cell (j:=2) (by simp)
  simp only[List.getElem_cons_zero,List.getElem_cons_succ,List.length_cons,List.length_nil] at k0 k1 k2⊢
  have c0:=hrd1.c0
  go_wp2_with fail
  refine(aec _ _ _ _ rfl).mono ?_
  rintro e w2 ⟨rfl,rfl⟩
  go_wp2_with fail
  have hsz': ∀l:List UInt8,l.length≤s.data.toList.length→(bsz l).size≤65536:=fun l hl=>by simp[ByteArray.size];omega
  refine(aiz b (bsz a) line _ (by have:=hsz' a ha;omega) c0).mono ?_
  rintro e w2 ⟨rfl,rfl⟩
  rw[show (bsz a).data.toList=a by simp]
  have hb01:Below base w w1:=hb1.mono hbw
  cases hp:abe a with
  | none=>
   simp only[amk]
   go_wp2
   refine⟨rfl,hb01,?_⟩
   rw[HM.out];simp[akl,hp]
  | some p=>
   obtain⟨hpI,hpm⟩:=aza hp
   simp only[amk]
   go_wp2_with fail
   have s0:(w1.drew.cell? ⟨w.heap.size,1,none⟩=some (.string (bsz bb))∧w1.drew.cell? ⟨w.heap.size,2,none⟩=some (.string (bsz c)))∧Below w1.heap.size w1 w1.drew:=⟨⟨k1,k2⟩,(Below.refl _ _).drew⟩
   have HK:Hid (∀x y:World,((x.cell? ⟨w.heap.size,1,none⟩=some (.string (bsz bb))∧x.cell? ⟨w.heap.size,2,none⟩=some (.string (bsz c)))∧Below w1.heap.size w1 x)→Below w1.heap.size x y→((y.cell? ⟨w.heap.size,1,none⟩=some (.string (bsz bb))∧y.cell? ⟨w.heap.size,2,none⟩=some (.string (bsz c)))∧Below w1.heap.size w1 y)):=fun x y h1 h2=>by
    have hlt:w.heap.size<w1.heap.size:=by omega
    exact⟨⟨(h2.cell (p:=⟨w.heap.size,1,none⟩) hlt).trans h1.1.1,(h2.cell (p:=⟨w.heap.size,2,none⟩) hlt).trans h1.1.2⟩,h1.2.trans h2⟩
   have HL:Hid (∀x:World,((x.cell? ⟨w.heap.size,1,none⟩=some (.string (bsz bb))∧x.cell? ⟨w.heap.size,2,none⟩=some (.string (bsz c)))∧Below w1.heap.size w1 x)→(x.cell? ⟨b,0,none⟩=some (.int .i64 line)∧x.cell? ⟨2,0,none⟩=some (.int .i64 m))∧Below base w x):=fun x hx=>
    ⟨⟨(hx.2.cell (p:=⟨b,0,none⟩) (by show b<_;omega)).trans c0,(hx.2.cell (p:=⟨2,0,none⟩) (by show 2<_;omega)).trans hm1⟩,hb01.trans (hx.2.mono (by omega))⟩
   have hszb:=hsz' bb hbb
   have hszc:=hsz' c hc
   have hRC: ∀x:World,x.cell? ⟨b,0,none⟩=some (.int .i64 line)→Calls Tryz.prog 111 #[.pointer (some ⟨b,0,none⟩),.string (bsz bb)] x fun e w'=>e=amk line (aci bb)∧x=w':=fun x hx=>by
    have:=ao6 b (bsz bb) line x (by omega) hx
    rwa [show (bsz bb).data.toList=bb by simp] at this
   have hRP: ∀x:World,x.cell? ⟨2,0,none⟩=some (.int .i64 m)→x.cell? ⟨b,0,none⟩=some (.int .i64 line)→Calls Tryz.prog 112 #[.pointer (some ⟨b,0,none⟩),.string (bsz c)] x fun e w'=>amj line x (ad5 c) e w':=fun x h1 h2=>by
    have:=ao3 b (bsz c) line m x hszc h1 h2
    rwa [show (bsz c).data.toList=c by simp] at this
   have HC:Hid (∀x:World,x.cell? ⟨b,0,none⟩=some (.int .i64 line)→Calls Tryz.prog 111 #[.pointer (some ⟨b,0,none⟩),.string (bsz bb)] x fun e w'=>e=amk line (aci bb)∧x=w'):=hRC
   have HP:Hid (∀x:World,x.cell? ⟨2,0,none⟩=some (.int .i64 m)→x.cell? ⟨b,0,none⟩=some (.int .i64 line)→Calls Tryz.prog 112 #[.pointer (some ⟨b,0,none⟩),.string (bsz c)] x fun e w'=>amj line x (ad5 c) e w'):=hRP
   clear hRC hRP
   cases hk:aci bb with
   | none=>
    rw[hk] at HC
    have HE:Hid (acj s.data.toList=none):=by show _=_;rw[HM.out];simp[akl,hp,hk]
    clear HM
    go_region_held (fun x=>(x.cell? ⟨w.heap.size,1,none⟩=some (.string (bsz bb))∧x.cell? ⟨w.heap.size,2,none⟩=some (.string (bsz c)))∧Below w1.heap.size w1 x) (first | exact s0 | assumption | exact HK.out _ _ (by assumption) (ady (by assumption) (by assumption)) | exact HK.out _ _ (by assumption) (aje (by assumption)) | exact HK.out _ _ (by assumption) (agt (Nat.le_refl _)) | exact HK.out _ _ (by assumption) (af7 (by first | exact Nat.le_refl _ | exact hb3.size))) (first | (go_at_call 111;refine aog (.int .i64 0) (HC.out _ (HL.out _ (by assumption)).1.1) (fun x hx=> ?_) ?_;(· subst hx;exact⟨rfl,(HL.out _ (by assumption)).2,by rw[HE.out]⟩);intro hX) | (go_at_call 112;refine ax2 (.slice none 0 0) (by assumption) ?_))
    all_goals exact(Hid.out (p:=False) (by assumption)).elim
   | some k=>
    rw[hk] at HC
    cases hq:ad5 c with
    | none=>
     rw[hq] at HP
     have HE:Hid (acj s.data.toList=none):=by show _=_;rw[HM.out];simp[akl,hp,hk,hq]
     clear HM
     go_region_held (fun x=>(x.cell? ⟨w.heap.size,1,none⟩=some (.string (bsz bb))∧x.cell? ⟨w.heap.size,2,none⟩=some (.string (bsz c)))∧Below w1.heap.size w1 x) (first | exact s0 | assumption | exact HK.out _ _ (by assumption) (ady (by assumption) (by assumption)) | exact HK.out _ _ (by assumption) (aje (by assumption)) | exact HK.out _ _ (by assumption) (agt (Nat.le_refl _)) | exact HK.out _ _ (by assumption) (af7 (by first | exact Nat.le_refl _ | exact hb3.size))) (first | (go_at_call 111;refine(HC.out _ (HL.out _ (by assumption)).1.1).mono ?_;rintro e w2 ⟨rfl,rfl⟩;simp only[amk]) | (go_at_call 112;refine aog (.slice none 0 0) (HP.out _ (HL.out _ (by assumption)).1.2 (HL.out _ (by assumption)).1.1) (fun x hx=> ?_) ?_;(· exact⟨rfl,((HL.out _ (by assumption)).2).trans (hx.mono (Nat.le_trans hbw ((HL.out _ (by assumption)).2).size)),by rw[HE.out]⟩);intro hX))
     all_goals exact(Hid.out (p:=False) (by assumption)).elim
    | some l=>
     rw[hq] at HP
     have HE:Hid (acj s.data.toList=some (p,k,l)):=by show _=_;rw[HM.out];simp[akl,hp,hk,hq]
     clear HM
     go_cut [6] from 21 (fun v wx=>aus w1 k l v wx)
     case first=>
      go_region_held (fun x=>(x.cell? ⟨w.heap.size,1,none⟩=some (.string (bsz bb))∧x.cell? ⟨w.heap.size,2,none⟩=some (.string (bsz c)))∧Below w1.heap.size w1 x) (first | exact s0 | assumption | exact HK.out _ _ (by assumption) (ady (by assumption) (by assumption)) | exact HK.out _ _ (by assumption) (aje (by assumption)) | exact HK.out _ _ (by assumption) (agt (Nat.le_refl _)) | exact HK.out _ _ (by assumption) (af7 (by first | exact Nat.le_refl _ | exact hb3.size)) | exact HK.out _ _ (by assumption) (abd (Nat.le_refl _))) (first | (go_at_call 111;refine(HC.out _ (HL.out _ (by assumption)).1.1).mono ?_;rintro e w2 ⟨rfl,rfl⟩;simp only[amk]) | (go_at_call 112;refine(HP.out _ (HL.out _ (by assumption)).1.2 (HL.out _ (by assumption)).1.1).mono ?_;rintro e w3 ⟨a3,n3,c3,rfl,hown3,hb3⟩;try (have hq3:=ar2 hb3;obtain⟨⟨q0,q1,q2⟩,qf0,qf1,qf2⟩:=abm hq3)))
      all_goals go_wp2_with fail
      all_goals go_meet
      case rel=>first | exact aib hown3 (by simp) hb3.size (by assumption) | exact aia hown3 (by simp) hq3 (by assumption)
      case rel=>first | exact aib hown3 (by simp) hb3.size (by assumption) | exact aia hown3 (by simp) hq3 (by assumption)
      case rel=>first | exact aib hown3 (by simp) hb3.size (by assumption) | exact aia hown3 (by simp) hq3 (by assumption)
     case rest=>
      obtain⟨bM,a3,n3,c3,rfl,hbM,hblk,hown,hbc⟩:=hcut
      have hrdc:=hrd1.below hbc
      have hbwc:Below base w wc:=hb01.trans (hbc.mono (by omega))
      have d0:=hrdc.c0
      have d1:=hrdc.c1
      have d2:=hrdc.c2
      have hblc:b<wc.heap.size:=by have:=hbc.size;omega
      have hlk:=hrdc.mp.look_ok Tryz.underlying89 (am2 _) hpI
      clear hst k0 k1 k2 s0 HK HL HC HP hrd hrd1 c0 hm1 hC hp hpm hk hq
      cases hany:L.any (fun m=>m.point==p) with
      | true=>
       obtain⟨mm,hmm,rfl,hma⟩:=aw4 hany
       obtain⟨a4,c4,hv4⟩:=(hrdc.parts mm hmm).val
       rw[hma] at hlk
       simp only[Option.map_some,Option.getD_some,Option.isSome_some,hv4] at hlk
       go_wp2_with fail
       refine(adl b _ _ line _ rfl ?_).mono ?_
       ·rw[World.cell?_alloc_lt _ _ _ hblc];exact d0
       rintro e w2 ⟨rfl,rfl⟩
       go_wp2
       refine⟨rfl,hbwc.alloc (by have:=hbc.size;omega) _,?_⟩
       rw[HE.out];simp[hany]
      | false=>
       have hma:=atl hany
       rw[hma] at hlk
       simp only[Option.map_none,Option.getD_none,Option.isSome_none] at hlk
       go_wp2_with fail
       refine(aec _ _ _ _ rfl).mono ?_
       rintro e w2 ⟨rfl,rfl⟩
       go_wp2_with fail
       by_cases hfull:4096≤L.length
       ·refine(adl b _ _ line _ (by simp;omega) ?_).mono ?_
        ·rw[World.cell?_alloc_lt _ _ _ hblc];exact d0
        rintro e w2 ⟨rfl,rfl⟩
        go_wp2
        refine⟨rfl,hbwc.alloc (by have:=hbc.size;omega) _,?_⟩
        rw[HE.out];simp[hany,hfull]
       ·refine(aec _ _ _ _ (by simp;omega)).mono ?_
        rintro e w2 ⟨rfl,rfl⟩
        have hb5:=(Below.refl wc.heap.size wc).alloc (Nat.le_refl _) (.cells #[.int .i64 0,.slice none 0 0,.slice none 0 0] 141)
        go_wp2_with fail
        generalize wc.alloc (.cells #[.int .i64 0,.slice none 0 0,.slice none 0 0] 141)=W5 at hb5⊢
        have hrd5:=hrdc.below hb5
        have hown5:=aad hown hb5
        have hblk5:=hblk.below hb5 hblk.lt
        obtain⟨w6,hup,hmp6,hgr6,hsz6⟩:=hrd5.mp.drew.update Tryz.underlying89 (by unfold maxLen;omega) hpI (ae5 k (.slice a3 n3 c3) (.slice none 0 0))
        have e1:W5.drew.cell? ⟨b,1,none⟩=some (.map (some bm)):=hrd5.c1
        obtain⟨⟨m0,m1,m2⟩,_⟩:=abm hblk5
        have bM0:W5.drew.cell? ⟨bM,0,none⟩=some (.int .i64 k):=m0
        have bM1:W5.drew.cell? ⟨bM,1,none⟩=some (.slice a3 n3 c3):=m1
        have bM2:W5.drew.cell? ⟨bM,2,none⟩=some (.slice none 0 0):=m2
        clear hlk d0 d1 d2
        go_region
        have hb6:Blk w6 b 92 #[.int .i64 line,.map (some bm),.slice av L.length cv]:=(hgr6.block b (by show b<W5.heap.size;exact(Array.getElem?_eq_some_iff.1 hrd5.blk).1) (fun e=>aaq hrd5.blk hrd5.mp (by simpa using e))).trans hrd5.blk
        have hpl6:=ad6 (w:=W5.drew) hrd5.places hrd5.mp.drew hgr6
        have hparts6: ∀mm∈L,IOwn w6 base (pv mm.point) mm.parts:=fun mm hmm=>ad6 (w:=W5.drew) (hrd5.parts mm hmm) hrd5.mp.drew hgr6
        have hown6:IOwn w6 base (.slice a3 n3 c3) l:=ad6 (w:=W5.drew) (IOwn.mono hown5 (by omega)) hrd5.mp.drew hgr6
        have hsz6':base≤w6.heap.size:=by have h1:=hb5.size;have h2:=hbwc.size;rw[hsz6];show base≤W5.heap.size;omega
        have hbel6:Below base w w6:=(hbwc.trans (hb5.mono (by have:=hbc.size;omega))).trans ((Below.refl base W5).drew.grown hgr6 (by show base≤W5.heap.size;rw[hsz6] at hsz6';exact hsz6') (fun j hj=>by cases hj;exact hrd5.mge))
        have g0:w6.drew.cell? ⟨b,0,none⟩=some (.int .i64 line):=hb6.cell 0
        have g2:w6.drew.cell? ⟨b,2,none⟩=some (.slice av L.length cv):=hb6.cell 2
        have g2':(w6.alloc (.cells #[.int .i64 p,.int .i64 line] 139)).drew.cell? ⟨b,2,none⟩=some (.slice av L.length cv):=(World.cell?_alloc_lt _ _ _ hb6.lt).trans g2
        obtain⟨i0,hi0,hz0,hz1,hz2⟩:=info_parts a7w
        have HS6:Hid (∀j cs,Blk w j 9 cs→Blk w6 j 9 cs):=fun j cs hj=>by
         have h5:Blk W5 j 9 cs:=((hj.below hb1 hj.lt).below hbc (by have:=hj.lt;omega)).below hb5 (by have:=hj.lt;have:=hbc.size;omega)
         exact(hgr6.block j h5.lt (fun e=>aaq h5 hrd5.mp (by simpa using e))).trans h5
        have HG:Hid (∀(w7:World) (g cap:Nat),w7.ownsRow base 139 2 (.slice (some ⟨g,0,none⟩) (L.length+1) cap) (L.length+1) (ac1 L++[.int .i64 p,.int .i64 line])→(w6.alloc (.cells #[.int .i64 p,.int .i64 line] 139)).drew.grownBy w7 (Value.slice av L.length cv).ownBlock→
          Blk w7 b 92 #[.int .i64 line,.map (some bm),.slice av L.length cv]∧(∃vp pv',RD (w7.setCell ⟨b,2,none⟩ (.slice (some ⟨g,0,none⟩) (L.length+1) cap)) base b bm line vp pv' (L++[⟨line,p,k,l⟩]))∧Below base w (w7.setCell ⟨b,2,none⟩ (.slice (some ⟨g,0,none⟩) (L.length+1) cap))∧ ∀j cs,Blk w j 9 cs→Blk (w7.setCell ⟨b,2,none⟩ (.slice (some ⟨g,0,none⟩) (L.length+1) cap)) j 9 cs):=fun w7 g cap h1 h2=>by
         obtain⟨x1,x2,x3,x4⟩:=RD.grow (o:=.cells #[.int .i64 p,.int .i64 line] 139) hb6 hrd5.bge hrd5.mge hsz6' hmp6 rfl hma hparts6 hown6 hpl6 h1 ⟨h2.os,h2.tape,h2.output,h2.size,h2.block⟩
         exact⟨x1,x2,hbel6.trans x3,fun j cs hj=>x4 j cs (HS6.out j cs hj)⟩
        clear hb1 hup e1 m0 m1 m2 bM0 bM1 bM2 hb5 hrd5 hown5 hblk5 hmp6 hgr6 hsz6 hrdc hown hblk hbc
        go_wp2_with fail
        go_region_law (refine step_append_lies _ (by rfl) _ _ _ (by rfl) base 139 i0 _ 2 16 Tryz.underlying90 hi0 hz0 hz1 hz2 rfl (by omega) (.slice av L.length cv) L.length (ac1 L) (by rfl) (World.ownsRow.alloc hpl6 _) ⟨w6.heap.size,0,none⟩ 1 1 [.int .i64 p,.int .i64 line] (by rfl) (by rfl) (World.news_of_block (cs:= #[.int .i64 p,.int .i64 line]) (t:=139) (fr:=(0,0)) (heap_alloc_new w6 _)) (by simp[Value.oneCell']) (by omega) (by unfold maxLen;omega) (by omega) (by simp;omega) (w6.heap.size+1) (by simp) ?_;intro gg cap w7 hown7 hgrow7 hat7 hlt7;obtain⟨y1,y2,y3,y4⟩:=HG.out _ _ _ hown7 hgrow7;have z2:w7.cell? ⟨b,2,none⟩=some (.slice av L.length cv):=y1.cell 2;have zf:=y1.frozen 2)
        all_goals
         go_end0
         refine⟨y3,?_⟩
         rw[HE.out]
         simp only[hany,hfull,Bool.false_eq_true,if_false]
         exact⟨trivial,y2,y4⟩
 ·have hlen: ¬((C.length:Int)=3):=by omega
  go_enter Tryz.func66,Tryz.ntmps66
  go_wp2_with fail
  refine(ad3 59 s m _ hs hm).mono ?_
  rintro e w1 ⟨rfl,hst,hb1,hsz1⟩
  rw[hC] at hst⊢
  have c0:=(hrd.below hb1).c0
  go_wp2_with fail
  refine(adl b _ _ line _ (by simpa using hlen) c0).mono ?_
  rintro e w2 ⟨rfl,rfl⟩
  go_wp2
  refine⟨rfl,hb1.mono hbw,?_⟩
  rw[HM.out]
  have:akl C=none:=by
   unfold akl
   split
   ·simp at h3
   ·rfl
  rw[this]
def a17 (base b bm:Nat)(r:Except (Int×Int) (List Mk))(w:World)(e:Ending)(w':World):Prop:=
 Below base w w'∧
 match r with
 | .error (why,line)=>e=ajt why line
 | .ok L=>e=.returned (.tuple #[])∧ ∃n vp pv,RD w' base b bm n vp pv L∧L.length≤4096
theorem alq (s:List UInt8)(r:List (List UInt8))(n:Int)(acc:List Mk)(h:aav s=false):aar (s::r) n acc=match acj s with
  | none=>.error (40,n+1)
  | some (p,k,l)=>
   if acc.any (fun m=>m.point==p) then .error (41,n+1)
   else if 4096≤acc.length then .error (2,n+1)
   else aar r (n+1) (acc++[⟨n+1,p,k,l⟩]):=by
 rw[aar];simp[h];rfl
theorem RD.bump {w:World}{base b bm:Nat}{line:Int}{vp:Value}{pv:Int→Value}{L:List Mk}(h:RD w base b bm line vp pv L)(n:Int):RD (w.setCell ⟨b,0,none⟩ (.int .i64 n)) base b bm n vp pv L:=by
 have hb:Blk w b 92 #[.int .i64 line,.map (some bm),vp]:=h.blk
 refine⟨by simpa[Blk] using hb.set 0 (.int .i64 n),h.bge,h.mge,h.mp.setCell (a:=⟨b,0,none⟩) (fun e=>aaq hb h.mp e.symm) _,fun m hm=> ?_,?_⟩
 ·exact ownsRow_setCell_other (h.parts m hm) (a:=⟨b,0,none⟩) (fun e=>aa9 (h.parts m hm) hb (by decide) e.symm) _
 ·exact ownsRow_setCell_other h.places (a:=⟨b,0,none⟩) (fun e=>aa9 h.places hb (by decide) e.symm) _
set_option maxHeartbeats 4000000 in
set_option maxRecDepth 20000 in
theorem ao4 (base b bm:Nat)(s:ByteArray)(m:Int)(vp:Value)(pv:Int→Value)(w:World)(hs:s.size≤65536)(h0:2<base)(hm:w.cell? ⟨2,0,none⟩=some (.int .i64 m))
  (hbw:base≤w.heap.size) (hrd:RD w base b bm 0 vp pv []):
  Calls Tryz.prog 33 #[.pointer (some ⟨b,0,none⟩),.string s] w fun e w'=>a17 base b bm (aar (aa3 10 s.data.toList) 0 []) w e w':=by
 have hsl:s.data.toList.length=s.size:=(Lib.size_eq s).symm
 have hcs:=abj 10 s.data.toList
 have hcl:=abl 10 s.data.toList
 have hblt:=(Array.getElem?_eq_some_iff.1 hrd.blk).1
 generalize hC:aa3 10 s.data.toList=C at hcs hcl
 generalize hR:aar C 0 []=R
 have HR:Hid (aar C 0 []=R):=hR
 clear hR
 go_enter Tryz.func33,Tryz.ntmps33
 go_wp2_with fail
 refine(ad3 10 s m _ hs hm).mono ?_
 rintro e w1 ⟨rfl,hst,hb1,hsz1⟩
 rw[hC] at hst⊢
 have hlt1:w.heap.size<w1.heap.size:=by omega
 clear hsz1
 have hrd1:=hrd.below hb1
 have hbw1:Below base w w1:=hb1.mono hbw
 clear hrd hC
 go_wp2_with fail
 go_loopw [9] (fun i wr=> ∃(k:Nat) (acc:List Mk) (vp:Value) (pv:Int→Value),k≤C.length∧i=.int .i64 k∧RD wr base b bm (k:Int) vp pv acc∧acc.length≤4096∧Hid (aar (C.drop k) (k:Int) acc=R)∧Strs wr w.heap.size C∧Below base w wr) (fun i _=>C.length-(intOf i).toNat)
 case atStart=>exact⟨0,[],vp,pv,by omega,rfl,hrd1,by simp,by simpa using HR,hst,hbw1⟩
 case round=>
  clear hrd1 hst hbw1 HR
  obtain⟨k,acc,vp',pv',hk,rfl,hrdk,hacc,HK,hstk,hbel⟩:=hrel
  by_cases hlt:k<C.length
  ·have hd:C.drop k=C[k]::C.drop (k+1):=List.drop_eq_getElem_cons hlt
   have hck:=hstk.cell hlt
   have hkl:=hcs C[k] (List.getElem_mem hlt)
   have d0:=hrdk.c0
   have f0:=hrdk.fz 0
   have hszk:(bsz C[k]).size≤65536:=by simp[ByteArray.size];omega
   have hrd2:=hrdk.bump ((k:Int)+1)
   have hbl2:Blk wr b 92 #[.int .i64 (k:Int),.map (some bm),vp']:=hrdk.blk
   have hst2:Strs (wr.setCell ⟨b,0,none⟩ (.int .i64 ((k:Int)+1))) w.heap.size C:=(Below.heap_setCell wr ⟨b,0,none⟩ _ w.heap.size (fun e=>by
    have e1:=(show wr.heap[w.heap.size]? =_ from hstk)
    rw[e] at e1
    have e2:=e1.symm.trans hbl2
    simp only[Option.some.injEq,Obj.cells.injEq] at e2
    exact absurd e2.2.1 (by decide))).trans hstk
   have hbel2:Below base w (wr.setCell ⟨b,0,none⟩ (.int .i64 ((k:Int)+1))):=hbel.setCell (p:=⟨b,0,none⟩) hrdk.bge _
   have hdat:C[k]=(bsz C[k]).data.toList:=by simp
   generalize bsz C[k]=t at hck hszk hdat
   rw[hdat] at hd
   cases hsil:aav t.data.toList with
   | true=>
    have HK2:Hid (aar (C.drop (k+1)) ((k:Int)+1) acc=R):=by show _=_;rw[←HK.out,hd,aar,if_pos hsil]
    clear HK hd hdat
    by_cases hemp:t.data.toList=[]
    ·have hemp':t.toList.isEmpty=true:=by rw[ByteArray.toList_eq];simpa using hemp
     clear hsil hemp
     go_wp2_with fail
     go_roundw
     case rel=>exact⟨k+1,acc,vp',pv',by omega,by simp,by simpa using hrd2,hacc,by simpa using HK2,hst2,hbel2⟩
     case measure=>simp only[intOf];omega
    ·have hemp':t.toList.isEmpty=false:=by rw[ByteArray.toList_eq];simpa using hemp
     have hpos:0<t.size:=by rw[Lib.size_eq];exact List.length_pos_iff.2 hemp
     have he':(t[0].toNat:Int)=35:=by
      unfold aav at hsil
      rw[ae6 t hpos] at hsil
      have hne:t.data.toList.isEmpty=false:=by simpa using hemp
      rw[hne] at hsil
      simp at hsil
      rw[hsil];rfl
     have he:((t[0].toNat:Int)==35)=true:=by simpa using he'
     clear hsil hemp
     go_wp2_with fail
     go_roundw
     case rel=>exact⟨k+1,acc,vp',pv',by omega,by simp,by simpa using hrd2,hacc,by simpa using HK2,hst2,hbel2⟩
     case measure=>simp only[intOf];omega
   | false=>
    have hemp:t.data.toList≠ []:=fun e=>by simp[aav,e] at hsil
    have hemp':t.toList.isEmpty=false:=by rw[ByteArray.toList_eq];simpa using hemp
    have hpos:0<t.size:=by rw[Lib.size_eq];exact List.length_pos_iff.2 hemp
    have he': ¬(t[0].toNat:Int)=35:=by
     unfold aav at hsil
     rw[ae6 t hpos] at hsil
     have hne:t.data.toList.isEmpty=false:=by simpa using hemp
     rw[hne] at hsil
     simp at hsil
     intro e
     exact hsil (UInt8.toNat_inj.1 (by
      have:t[0].toNat=35:=by omega
      simpa using this))
    have he:((t[0].toNat:Int)==35)=false:=by simpa using he'
    have HK1:Hid (R=match acj t.data.toList with
      | none=>.error (40,(k:Int)+1)
      | some (p,q,l)=>
       if acc.any (fun m=>m.point==p) then .error (41,(k:Int)+1)
       else if 4096≤acc.length then .error (2,(k:Int)+1)
       else aar (C.drop (k+1)) ((k:Int)+1) (acc++[⟨(k:Int)+1,p,q,l⟩])):=by show _=_;rw[←HK.out,hd,alq _ _ _ _ hsil]
    have hmw:(wr.setCell ⟨b,0,none⟩ (.int .i64 ((k:Int)+1))).cell? ⟨2,0,none⟩=some (.int .i64 m):=(hbel2.cell (p:=⟨2,0,none⟩) h0).trans hm
    have hbw2:base≤(wr.setCell ⟨b,0,none⟩ (.int .i64 ((k:Int)+1))).heap.size:=by have:=hbel2.size;omega
    clear HK hd hsil hemp hdat
    go_wp2_with fail
    generalize wr.setCell ⟨b,0,none⟩ (.int .i64 ((k:Int)+1))=W at hrd2 hst2 hbel2 hmw hbw2⊢
    refine(aqk base b bm t ((k:Int)+1) m _ _ acc _ hszk h0 hmw hacc hbw2 hrd2).mono ?_
    rintro e w3 ⟨hb3,hpost⟩
    have hbel3:=hbel2.trans hb3
    cases hmk:acj t.data.toList with
    | none=>
     rw[hmk] at hpost
     obtain rfl:=hpost
     have hRn:=HK1.out
     rw[hmk] at hRn
     go_wp2
     refine⟨rfl,hbel3,?_⟩
     rw[hRn]
    | some q=>
     obtain⟨p,q,l⟩:=q
     rw[hmk] at hpost
     have hRn:=HK1.out
     rw[hmk] at hRn
     simp only at hpost hRn
     cases hany:acc.any (fun m=>m.point==p) with
     | true=>
      rw[hany] at hpost hRn
      simp only[if_true] at hpost hRn
      subst hpost
      go_wp2
      refine⟨rfl,hbel3,?_⟩
      rw[hRn]
     | false=>
      rw[hany] at hpost hRn
      simp only[Bool.false_eq_true,if_false] at hpost hRn
      by_cases hfull:4096≤acc.length
      ·rw[if_pos hfull] at hpost hRn
       subst hpost
       go_wp2
       refine⟨rfl,hbel3,?_⟩
       rw[hRn]
      ·rw[if_neg hfull] at hpost hRn
       obtain⟨rfl,⟨vq,pq,hrd3⟩,hks⟩:=hpost
       have hst3:Strs w3 w.heap.size C:=hks _ _ hst2
       have HK2:Hid (aar (C.drop (k+1)) ((k:Int)+1) (acc++[⟨(k:Int)+1,p,q,l⟩])=R):=hRn.symm
       clear hRn HK1 hmk
       go_wp2_with fail
       go_roundw
       case rel=>exact⟨k+1,acc++[⟨(k:Int)+1,p,q,l⟩],vq,pq,by omega,by simp,by simpa using hrd3,by simp;omega,by simpa using HK2,hst3,hbel3⟩
       case measure=>simp only[intOf];omega
  ·have hRs:R=.ok acc:=by rw[←HK.out,List.drop_of_length_le (by omega)];rfl
   go_wp2
   go_end0
   refine⟨hbel,?_⟩
   rw[hRs]
   exact⟨rfl,_,_,_,hrdk,hacc⟩
end Go.Proofs.YtfhpgmlfgjfknaaGreatDoor
