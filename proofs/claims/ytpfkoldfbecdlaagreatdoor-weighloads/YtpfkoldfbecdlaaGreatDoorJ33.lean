/- Contracts and lemmas (nothing is claimed here). -/
import Derived.Test.YtpfkoldfbecdlaaGreatDoorJ32
import Derived.ArgAppend
namespace Go.Proofs.YtpfkoldfbecdlaaGreatDoor
open Go.RowKit Go.Vf Go.Maps
structure BF (l:List PM)(p:Int)(todo:List Int)(mt:List Bool)(x:Int)(rest:List Int):Prop where
 len:mt.length=l.length
 reach: ∀t∈todo,Lead0 (aap l) p t
 left: ∀q∈rest,Lead (aap l) p q
 done: ∀y,(y=p∨ ∃k,∃h:k<l.length,mt[k]? =some true∧(l[k]).point=y)→y∈todo∨ ∀q∈aap l y,(q∈rest∧y=x)∨(q≠p∧ ∀k,∀h:k<l.length,(l[k]).point=q→mt[k]? =some true)
theorem BF.start (l:List PM)(p x:Int):BF l p [p] (List.replicate l.length false) x [] where
 len:=by simp
 reach:=by simp[Lead0.refl]
 left:=by simp
 done:=by
  rintro y (rfl | ⟨k,h,hm,_⟩)
  ·exact .inl (by simp)
  ·simp[h] at hm
theorem BF.pop {l:List PM}{p t x:Int}{ts:List Int}{mt:List Bool}(h:BF l p (t::ts) mt x []):BF l p ts mt t (aap l t) where
 len:=h.len
 reach:=fun y hy=>h.reach y (by simp[hy])
 left:=fun q hq=>(h.reach t (by simp)).step hq
 done:=fun y hy=>by
  rcases h.done y hy with h1 | h1
  ·rcases List.mem_cons.1 h1 with rfl | h2
   ·exact .inr fun q hq=>.inl ⟨hq,rfl⟩
   ·exact .inl h2
  ·refine .inr fun q hq=> ?_
   rcases h1 q hq with ⟨h2,_⟩ | h2
   ·simp at h2
   ·exact .inr h2
theorem BF.found {l:List PM}{p x:Int}{todo r:List Int}{mt:List Bool}(h:BF l p todo mt x (p::r)):Lead (aap l) p p:=h.left p (by simp)
theorem BF.pass {l:List PM}{p x q:Int}{todo r:List Int}{mt:List Bool}(h:BF l p todo mt x (q::r))(hq:q≠p)(hm: ∀k,∀h:k<l.length,(l[k]).point=q→mt[k]? =some true):BF l p todo mt x r where
 len:=h.len
 reach:=h.reach
 left:=fun y hy=>h.left y (by simp[hy])
 done:=fun y hy=>by
  rcases h.done y hy with h1 | h1
  ·exact .inl h1
  ·refine .inr fun z hz=> ?_
   rcases h1 z hz with ⟨h2,h3⟩ | h2
   ·rcases List.mem_cons.1 h2 with rfl | h4
    ·exact .inr ⟨hq,hm⟩
    ·exact .inl ⟨h4,h3⟩
   ·exact .inr h2
theorem BF.meet {l:List PM}(hrise:(l.map PM.point).Pairwise (· < ·)){p x q:Int}{todo r:List Int}{mt:List Bool}(h:BF l p todo mt x (q::r))(hq:q≠p){k:Nat}(hk:k<l.length)(hkq:(l[k]).point=q):BF l p (todo++[q]) (mt.set k true) x r where
 len:=by rw[List.length_set];exact h.len
 reach:=fun y hy=>by
  rcases List.mem_append.1 hy with h1 | h1
  ·exact h.reach y h1
  ·simp at h1
   subst h1
   exact .inr (h.left y (by simp))
 left:=fun y hy=>h.left y (by simp[hy])
 done:=fun y hy=>by
  have up: ∀j,mt[j]? =some true→(mt.set k true)[j]? =some true:=fun j hj=>by
   by_cases e:k=j
   ·subst e
    rw[List.getElem?_set_self (by rw[h.len];exact hk)]
   ·rw[List.getElem?_set_ne e];exact hj
  have uniq: ∀j,∀hj:j<l.length,(l[j]).point=q→j=k:=fun j hj e=>by
   rcases Nat.lt_trichotomy j k with h1 | h1 | h1
   ·have:=agw hrise hj hk h1;omega
   ·exact h1
   ·have:=agw hrise hk hj h1;omega
  by_cases hyq:y=q
  ·exact .inl (by simp[hyq])
  ·have hy':y=p∨ ∃j,∃h:j<l.length,mt[j]? =some true∧(l[j]).point=y:=by
    rcases hy with h1 | ⟨j,hj,h1,h2⟩
    ·exact .inl h1
    ·refine .inr ⟨j,hj,?_,h2⟩
     have hjk:k≠j:=fun e=>by subst e;exact hyq (h2.symm.trans hkq)
     rwa [List.getElem?_set_ne hjk] at h1
   rcases h.done y hy' with h1 | h1
   ·exact .inl (by simp[h1])
   ·refine .inr fun z hz=> ?_
    rcases h1 z hz with ⟨h2,h3⟩ | ⟨h2,h3⟩
    ·rcases List.mem_cons.1 h2 with rfl | h4
     ·refine .inr ⟨hq,fun j hj e=> ?_⟩
      have:=uniq j hj e
      subst this
      rw[List.getElem?_set_self (by rw[h.len];exact hk)]
     ·exact .inl ⟨h4,h3⟩
    ·exact .inr ⟨h2,fun j hj e=>up j (h3 j hj e)⟩
theorem aym {l:List PM}{p:Int}(h:aap l p≠ []): ∃k,∃h:k<l.length,(l[k]).point=p:=by
 unfold aap at h
 cases hp:a1p l p with
 | none=>rw[hp] at h;simp at h
 | some m=>
  obtain⟨k,hk,e⟩:=List.mem_iff_getElem.1 (List.mem_of_find?_eq_some hp)
  exact⟨k,hk,by rw[e];simpa using List.find?_some hp⟩
theorem BF.none {l:List PM}{p x:Int}{mt:List Bool}(h:BF l p [] mt x []): ¬Lead (aap l) p p:=by
 have step: ∀y,(y=p∨ ∃k,∃h:k<l.length,mt[k]? =some true∧(l[k]).point=y)→ ∀q∈aap l y,q≠p∧ ∀k,∀h:k<l.length,(l[k]).point=q→mt[k]? =some true:=fun y hy q hq=>by
  rcases h.done y hy with h1 | h1
  ·simp at h1
  ·rcases h1 q hq with ⟨h2,_⟩ | h2
   ·simp at h2
   ·exact h2
 have key: ∀ {y z:Int},Lead (aap l) y z→(y=p∨ ∃k,∃h:k<l.length,mt[k]? =some true∧(l[k]).point=y)→z≠p:=by
  intro y z hl
  induction hl with
  | one hq=>intro hy;exact(step _ hy _ hq).1
  | more hq hl2 ih=>
   intro hy
   obtain⟨_,h2⟩:=step _ hy _ hq
   obtain⟨k,hk,e⟩:=aym (aza hl2)
   exact ih (.inr ⟨k,hk,h2 k hk e,e⟩)
 exact fun hl=>key hl (.inl rfl) rfl
structure TR (w:World)(base g o c:Nat)(zs:List Int):Prop where
 ge:base≤g
 le:zs.length≤c
 blk: ∃cur,w.heap[g]? =some (.cells cur 3 (0,0))∧o+c≤cur.size∧ ∀j,j<zs.length→cur[o+j]? =some (.int .i64 (zs[j]?.getD 0))
theorem TR.alloc {w:World}{base g o c:Nat}{zs:List Int}(h:TR w base g o c zs)(ob:Obj):TR (w.alloc ob) base g o c zs:=by
 obtain⟨cur,h1,h2⟩:=h.blk
 exact⟨h.ge,h.le,cur,(Below.heap_alloc w ob g (Array.getElem?_eq_some_iff.1 h1).1).trans h1,h2⟩
theorem TR.keep {w w':World}{base g o c:Nat}{zs:List Int}(h:TR w base g o c zs)(hg:w'.heap[g]? =w.heap[g]?):TR w' base g o c zs:=by
 obtain⟨cur,h1,h2⟩:=h.blk
 exact⟨h.ge,h.le,cur,hg.trans h1,h2⟩
theorem TR.tail {w:World}{base g o c:Nat}{z:Int}{zs:List Int}(h:TR w base g o c (z::zs))(_:c≠1):TR w base g (o+1) (c-1) zs:=by
 obtain⟨cur,h1,h2,h3⟩:=h.blk
 have hle:=h.le
 simp only[List.length_cons] at hle
 refine⟨h.ge,by omega,cur,h1,by omega,fun j hj=> ?_⟩
 have:=h3 (j+1) (by simp;omega)
 rw[show o+1+j=o+(j+1) by omega,this]
 simp
theorem TR.tail1 {w:World}{base g o:Nat}{z:Int}{zs:List Int}(h:TR w base g o 1 (z::zs)):zs=[]∧TR w base g o 0 []:=by
 obtain⟨cur,h1,h2,h3⟩:=h.blk
 have hle:=h.le
 simp only[List.length_cons] at hle
 exact⟨List.eq_nil_of_length_eq_zero (by omega),h.ge,by simp,cur,h1,by omega,fun j hj=>by simp at hj⟩
theorem TR.head {w:World}{base g o c:Nat}{z:Int}{zs:List Int}(h:TR w base g o c (z::zs)):w.cell? ⟨g,o,none⟩=some (.int .i64 z):=by
 obtain⟨cur,h1,_,h3⟩:=h.blk
 have:=h3 0 (by simp)
 simp only[World.cell?,h1]
 simpa using this
theorem aik {w:World}{ops:Array Oper}{rest:List Oper}{o:Oper}{a:Act}{Q:Exit→Act→World→Prop}(hgd:o.guard=none)(s x:Operand)
  (ho:o.op=.call {callee:=.builtin .append,args:= #[s,x],argTypes:= #[90,90]})
  (base g off c:Nat) (zs:List Int) (hs:a.eval s=.slice (some ⟨g,off,none⟩) zs.length c) (ht:TR w base g off c zs) (q:Int) (hx:a.eval x=.slice (some ⟨w.heap.size,0,none⟩) 1 1)
  (hlen:zs.length≤1099511627776) (hbase:base≤w.heap.size)
  (h: ∀g' o' c' w',TR w' base g' o' c' (zs++[q])→(w.alloc (.cells #[.int .i64 q] 3)).grownBy w' (some g)→wpList Tryz.prog ops Q rest (a.put o.dst (.slice (some ⟨g',o',none⟩) (zs.length+1) c')) w'):
  wpList Tryz.prog ops Q (o::rest) a (w.alloc (.cells #[.int .i64 q] 3)):=by
 obtain⟨i,hi,hz,hsz,hby⟩:=info_parts awr
 have hb:=Blk.new w 3 #[.int .i64 q]
 have ht1:=ht.alloc (.cells #[.int .i64 q] 3)
 obtain⟨cur,k1,k2,k3⟩:=ht1.blk
 have hblk:Blk (w.alloc (.cells #[.int .i64 q] 3)) g 3 cur:=k1
 refine wpList_append_arg (P:=Tryz.prog) (w.alloc (.cells #[.int .i64 q] 3)) hgd s x 90 ho 3 i (.int .i64 0) 1 8 Tryz.underlying90 hi hz hsz hby rfl (by decide) g off zs.length c (zs.map (Value.int .i64)) hs (by simp) ?_ ⟨w.heap.size,0,none⟩ 1 1 [.int .i64 q] hx (by rfl) ?_ ?_ ?_ ?_ ?_ ?_ ?_
 ·intro j u hu
  have hj:j<zs.length:=by have:=(List.getElem?_eq_some_iff.1 hu).1;simpa using this
  rw[hblk.cell,k3 j hj,←hu]
  simp[hj]
 ·intro j u hu
  match j,hu with
  | 0,hu=>simp at hu;subst hu;exact hb.cell 0
 ·intro u hu;simp at hu;subst hu;rfl
 ·intro hr j hj
  have:j=0:=by simp at hj;omega
  subst this
  refine⟨?_,hblk.frozen _⟩
  rw[hblk.cell]
  simp
  omega
 ·unfold maxLen;omega
 ·omega
 ·intro hr
  have e:(w.alloc (.cells #[.int .i64 q] 3)).setCells g (off+zs.length*1) [.int .i64 q]=(w.alloc (.cells #[.int .i64 q] 3)).setCell ⟨g,off+zs.length,none⟩ (.int .i64 q):=by
   simp[World.setCells]
  rw[e]
  refine h g off c _ ⟨ht.ge,by simp;omega,cur.setIfInBounds (off+zs.length) (.int .i64 q),hblk.set _ _,by simpa using k2,fun j hj=> ?_⟩ ⟨rfl,rfl,rfl,by simp[World.setCell],fun k hk hne=>Below.heap_setCell _ ⟨g,off+zs.length,none⟩ _ k (fun e=>hne (by rw[e]))⟩
  have hle:=ht.le
  rw[List.length_append] at hj
  simp at hj
  by_cases hjl:j<zs.length
  ·rw[Array.getElem?_setIfInBounds_ne (by omega),k3 j hjl,List.getElem?_append_left hjl]
  ·obtain rfl:j=zs.length:=by omega
   rw[Array.getElem?_setIfInBounds_self_of_lt (by omega)]
   simp
 ·intro hr v' w' h1 h2
  rcases h1.2 with ⟨_,h0⟩ | ⟨g',cap,cur',hv,hbb,hg',hn',hm',hs',ht'⟩
  ·omega
  ·subst hv
   refine h g' 0 cap w' ⟨by simp at hbb;omega,by simpa using hn',cur',hg',by rw[hs'];omega,fun j hj=> ?_⟩ ⟨h2.os,h2.tape,h2.output,h2.size,fun k hk _=>h2.block k hk (by simp)⟩
   rw[List.length_append] at hj
   simp at hj
   have e1:(cur'.toList.take ((zs.length+1)*1))[j]? =(zs.map (Value.int .i64)++[.int .i64 q])[j]?:=by rw[ht']
   rw[List.getElem?_take_of_lt (by omega)] at e1
   rw[Nat.zero_add,←Array.getElem?_toList,e1]
   by_cases hjl:j<zs.length
   ·rw[List.getElem?_append_left (by simpa using hjl),List.getElem?_append_left hjl]
    simp[hjl]
   ·obtain rfl:j=zs.length:=by omega
    simp
theorem ayk: ∀ {a b:List PM},a.Perm b→(a.map PM.point).Pairwise (· < ·)→(b.map PM.point).Pairwise (· < ·)→a=b:=by
 intro a b hp ha hb
 rw[List.pairwise_map] at ha hb
 exact hp.eq_of_pairwise (fun x y _ _ h1 h2=>by exact absurd h1 (by omega)) ha hb
theorem a1k {l:List PM}(h:(l.map PM.point).Pairwise (· < ·)){m:PM}{k:Nat}(hk:PlaceAt l m.point k)(hno: ∀i (h:i<l.length),(l[i]).point≠m.point):((l.take k++[m]++l.drop k).map PM.point).Pairwise (· < ·):=by
 rw[List.pairwise_map] at h⊢
 have h1:=h.sublist (List.take_sublist k l)
 have h2:=h.sublist (List.drop_sublist k l)
 have lo: ∀x∈l.take k,x.point<m.point:=fun x hx=>by
  obtain⟨i,hi,e⟩:=List.mem_iff_getElem.1 hx
  rw[List.length_take] at hi
  rw[List.getElem_take] at e
  rw[←e]
  exact hk.lo i (by omega) (by omega)
 have hi': ∀x∈l.drop k,m.point<x.point:=fun x hx=>by
  obtain⟨i,hi,e⟩:=List.mem_iff_getElem.1 hx
  rw[List.length_drop] at hi
  rw[List.getElem_drop] at e
  rw[←e]
  have g1:=hk.hi (k+i) (by omega) (by omega)
  have g2:=hno (k+i) (by omega)
  omega
 rw[List.append_assoc,List.pairwise_append]
 refine⟨h1,?_,?_⟩
 ·rw[List.singleton_append,List.pairwise_cons]
  exact⟨hi',h2⟩
 ·intro x hx y hy
  have g1:=lo x hx
  rcases List.mem_append.1 hy with hy | hy
  ·simp at hy;subst hy;exact g1
  ·have:=hi' y hy;omega
theorem av5 {L:List Mk}(hnd:(L.map Mk.point).Nodup){m:Mk}(hm:m.point∉L.map Mk.point){k:Nat}(hk:PlaceAt (aai L) m.point k):aai (L++[m])=(aai L).take k++[akh m]++(aai L).drop k:=by
 have hnd':((L++[m]).map Mk.point).Nodup:=by
  rw[List.map_append,List.nodup_append]
  refine⟨hnd,by simp,?_⟩
  intro a ha b hb
  simp at hb
  subst hb
  exact fun e=>hm (e▸ha)
 have hp:=ae3 hnd
 have hno: ∀i (h:i<(aai L).length),((aai L)[i]).point≠m.point:=fun i h e=>by
  have h1:(aai L)[i]∈L.map akh:=hp.mem_iff.1 (List.getElem_mem h)
  obtain⟨x,hx,e1⟩:=List.mem_map.1 h1
  refine hm (List.mem_map.2 ⟨x,hx,?_⟩)
  rw[←e,←e1]
  rfl
 refine ayk ?_ (adv hnd') (a1k (adv hnd) (m:=akh m) hk hno)
 refine(ae3 hnd').trans ?_
 rw[List.map_append]
 refine(hp.symm.append_right _).trans ?_
 conv=>lhs;rw[←List.take_append_drop k (aai L)]
 rw[List.append_assoc,List.append_assoc]
 exact List.Perm.append_left _ List.perm_append_comm
theorem anl {α:Type}{p:α→Bool}{a b:List α}{m:α}(ha: ∀x∈a,p x=false)(hm:p m=true):(a++m::b).find? p=some m:=by
 rw[List.find?_append,List.find?_eq_none.2 (fun x hx=>by simp[ha x hx])]
 simp[hm]
theorem ay1 {t:List UInt8}{L a b:List Mk}{m:Mk}(hlen:t.length≤65536)(hl:aar (aa5 10 t) 0 []=.ok L)(hL:L=a++m::b)(ha: ∀x∈a,¬Lead (aac L) x.point x.point)(hm:Lead (aac L) m.point m.point):abb t=.error (42,m.line):=by
 obtain⟨S,hS,hI,hmet⟩:=aen (abk hlen hl).2.2.2.2
 unfold abb
 rw[if_neg (by omega),hl]
 simp only[hS]
 have hf:L.find? (fun m=>decide (S.loops m.point>0))=some m:=by
  rw[hL]
  refine anl (fun x hx=> ?_) ?_
  ·rcases(hI.loop x.point).2 with h | h
   ·exact absurd ((hI.loop x.point).1.1 h).2 (ha x hx)
   ·simp;omega
  ·have h1:=hmet m.point (List.mem_map.2 ⟨m,by rw[hL];simp,rfl⟩)
   have ho:m.point∈S.ord:=by
    rcases hI.met_range m.point with h | ⟨h,_⟩ | ⟨h,_⟩
    ·exact absurd h h1
    ·rw[hI.shut] at h;simp at h
    ·exact h
   rw[(hI.loop m.point).1.2 ⟨ho,hm⟩]
   simp
 rw[hf]
theorem endsG_len {G:Int→List Int}{k:Nat}{p:Int}:18<(akc G k p).length↔18<(wh G k p).length:=by
 unfold akc
 by_cases h:G p=[]
 ·rw[if_pos h,ajb h]
  simp
 ·rw[if_neg h,List.length_take]
  omega
theorem ay4 {t:List UInt8}{L:List Mk}(hlen:t.length≤65536)(hl:aar (aa5 10 t) 0 []=.ok L)(hno: ∀m∈L,¬Lead (aac L) m.point m.point):
  ∃k,(∀p,Dep (aac L) k p)∧(∀a m b,L=a++m::b→(∀x∈a,(wh (aac L) k x.point).length≤18)→18<(wh (aac L) k m.point).length→abb t=.error (43,m.line))∧
   ((∀m∈L,(wh (aac L) k m.point).length≤18)→ ∃E,abb t=.ok (L,E)∧ ∀p,E p=akc (aac L) k p):=by
 obtain⟨S,hS,hI,hmet⟩:=aen (abk hlen hl).2.2.2.2
 obtain⟨ht,he⟩:=ao6 hI hmet hno
 have he':=he (S.ord.length+1) (Nat.le_refl _)
 have h1:L.find? (fun m=>decide (S.loops m.point>0))=none:=by
  rw[List.find?_eq_none]
  intro m hm hgt
  have hgt':S.loops m.point>0:=by simpa using hgt
  rcases(hI.loop m.point).2 with h | h
  ·exact hno m hm ((hI.loop m.point).1.1 h).2
  ·omega
 refine⟨S.ord.length+1,fun p=> ?_,fun a m b hL ha hm=> ?_,fun hs=>⟨aeb (adc L) (aac L) S.ord (fun _=>[]),?_,he'⟩⟩
 ·by_cases hG:aac L p=[]
  ·exact Dep.leaf hG _
  ·obtain⟨m,hm,e⟩:=ae1 hG
   have hp:p∈S.ord:=by
    have h1:=hmet p (List.mem_map.2 ⟨m,hm,e⟩)
    rcases hI.met_range p with h | ⟨h,_⟩ | ⟨h,_⟩
    ·exact absurd h h1
    ·rw[hI.shut] at h;simp at h
    ·exact h
   obtain⟨pre,post,hs⟩:=List.append_of_mem hp
   exact Dep.of_topo ht (S.ord.length+1) pre p post (by rw[hs];simp;omega) hs
 ·unfold abb
  rw[if_neg (by omega),hl]
  simp only[hS]
  rw[h1]
  have h2:L.find? (fun m=>decide (18<(aeb (adc L) (aac L) S.ord (fun _=>[]) m.point).length))=some m:=by
   conv=>lhs;arg 2;rw[hL]
   refine anl (fun x hx=> ?_) ?_
   ·rw[he']
    have:=ha x hx
    exact decide_eq_false (fun h=>by have:=endsG_len.1 h;omega)
   ·rw[he']
    exact decide_eq_true (endsG_len.2 hm)
  simp only[h2]
 ·unfold abb
  rw[if_neg (by omega),hl]
  simp only[hS]
  rw[h1]
  have h2:L.find? (fun m=>decide (18<(aeb (adc L) (aac L) S.ord (fun _=>[]) m.point).length))=none:=by
   rw[List.find?_eq_none]
   intro m hm hgt
   rw[he'] at hgt
   have:=endsG_len.1 (of_decide_eq_true hgt)
   have:=hs m hm
   omega
  simp only[h2]
theorem a7b:(Tryz.prog.info? 4).map (fun i=>(i.zero,i.size,i.bytes))=some (some (.bool false),1,1):=by kernel_rfl
def aju (mt:List Bool):Array Value:=(mt.map Value.bool).toArray
theorem am9 (n:Nat):madeCells #[.bool false] n=aju (List.replicate n false):=by
 apply Array.ext'
 refine List.ext_getElem? fun j=> ?_
 by_cases h:j<n<;>simp[madeCells,aju,h,Nat.mod_one]
def app (w:World)(g:Nat):Nat:=match w.heap[g]? with
 | some (.cells cs _ _)=>(cs.toList.filter fun v=>match v with | .bool b=> !b | _=>false).length
 | _=>0
def a6b:Value→Nat
 | .slice _ n _=>n
 | _=>0
theorem at4 {w:World}{g:Nat}{mt:List Bool}(h:Blk w g 4 (aju mt)):app w g=mt.count false:=by
 unfold app
 rw[show w.heap[g]? =_ from h]
 simp only[aju]
 clear h
 induction mt with
 | nil=>rfl
 | cons b r ih=>cases b<;>simp_all
theorem a0l: ∀ {mt:List Bool} {k:Nat},mt[k]? =some false→(mt.set k true).count false+1=mt.count false:=by
 intro mt
 induction mt with
 | nil=>intro k h;simp at h
 | cons b r ih=>
  intro k h
  cases k with
  | zero=>simp at h;subst h;simp
  | succ k=>
   simp only[List.getElem?_cons_succ] at h
   have:=ih h
   cases b<;>simp<;>omega
theorem a3j {mt:List Bool}{k:Nat}{b:Bool}(h:mt[k]? =some b):(aju mt)[k]? =some (.bool b):=by simp[aju,h]
theorem a0w (mt:List Bool)(k:Nat)(b:Bool):(aju mt).setIfInBounds k (.bool b)=aju (mt.set k b):=by
 apply Array.ext'
 simp[aju]
structure BK (l:List PM)(w:World)(a:Option Addr)(cap:Nat)(wr:World)(todo:List Int)(mt:List Bool)(g o c:Nat):Prop where
 box:Blk wr w.heap.size 28 #[.slice a l.length cap]
 met:Blk wr (w.heap.size+1) 4 (aju mt)
 tr:TR wr (w.heap.size+2) g o c todo
 below:Below w.heap.size w wr
 sz:w.heap.size+2≤wr.heap.size
theorem Blk.old {w w':World}{b:Nat}{t:TypeId}{cs:Array Value}(h:Blk w b t cs)(hb:Below w.heap.size w w'):Blk w' b t cs:=h.below hb h.lt
theorem TR.lt {w:World}{base g o c:Nat}{zs:List Int}(h:TR w base g o c zs):g<w.heap.size:=by
 obtain⟨cur,h1,_⟩:=h.blk
 exact(Array.getElem?_eq_some_iff.1 h1).1
theorem TR.one (W:World)(p:Int){base:Nat}(h:base≤W.heap.size):TR (W.alloc (.cells #[.int .i64 p] 3)) base W.heap.size 0 1 [p]:=
 ⟨h,by simp,#[.int .i64 p],Blk.new W 3 #[.int .i64 p],by simp,fun j hj=>by
  have:j=0:=by simp at hj;omega
  subst this
  rfl⟩
theorem BK.old {l:List PM}{w:World}{a:Option Addr}{cap:Nat}{wr wx:World}{todo:List Int}{mt:List Bool}{g o c:Nat}(h:BK l w a cap wr todo mt g o c)(hb:Below wr.heap.size wr wx):BK l w a cap wx todo mt g o c:=
 ⟨h.box.old hb,h.met.old hb,h.tr.keep (hb.block g h.tr.lt),h.below.trans (hb.mono (by have:=h.sz;omega)),Nat.le_trans h.sz hb.size⟩
theorem BK.mark {l:List PM}{w:World}{a:Option Addr}{cap:Nat}{wr:World}{todo:List Int}{mt:List Bool}{g o c:Nat}(h:BK l w a cap wr todo mt g o c)(k:Nat):BK l w a cap (wr.setCell ⟨w.heap.size+1,k,none⟩ (.bool true)) todo (mt.set k true) g o c:=by
 have hg:=h.tr.ge
 refine⟨(Below.heap_setCell wr ⟨w.heap.size+1,k,none⟩ _ _ (by show w.heap.size≠w.heap.size+1;omega)).trans h.box,?_,h.tr.keep (Below.heap_setCell wr ⟨w.heap.size+1,k,none⟩ _ _ (by show g≠w.heap.size+1;omega)),h.below.setCell (by show w.heap.size≤w.heap.size+1;omega) _,by simpa[World.setCell] using h.sz⟩
 have:=h.met.set k (.bool true)
 rwa [a0w] at this
theorem BK.put {l:List PM}{w:World}{a:Option Addr}{cap:Nat}{wr wx:World}{todo td:List Int}{mt:List Bool}{g o c g' o' c':Nat}(h:BK l w a cap wr todo mt g o c){ob:Obj}(hg:(wr.alloc ob).grownBy wx (some g))(ht:TR wx (w.heap.size+2) g' o' c' td):BK l w a cap wx td mt g' o' c':=by
 have hge:=h.tr.ge
 have ha:=(Below.refl wr.heap.size wr).alloc (Nat.le_refl _) ob
 have hb:=h.box.old ha
 have hm:=h.met.old ha
 have hsz:=h.sz
 have hs:=hg.size
 have ha2:=ha.size
 exact⟨(hg.block _ hb.lt (fun e=>by cases e;omega)).trans hb,(hg.block _ hm.lt (fun e=>by cases e;omega)).trans hm,ht,(h.below.trans (ha.mono (by omega))).grown hg (by omega) (fun k e=>by cases e;omega),by omega⟩
def at1 (l:List PM)(n₀:Nat)(z:Int)(W:World)(v:Value)(wx:World):Prop:=
 ∃bM pa pk pc,v=.pointer (some ⟨bM,0,none⟩)∧W.heap.size≤bM∧Blk wx bM 120 #[.int .i64 z,.int .i64 (axe l z),.slice pa pk pc]∧Ints n₀ wx (.slice pa pk pc) (aap l z)∧Below W.heap.size W wx
theorem al6 {l:List PM}{n₀:Nat}{z:Int}{W w3:World}{pa:Option Addr}{pk pc:Nat}{A:Prop}(h:Ints n₀ w3 (.slice pa pk pc) (aap l z))(hn:n₀≤w3.heap.size)(hs:W.heap.size≤w3.heap.size)
  (hS:A∧Below W.heap.size W (w3.alloc (.cells #[.int .i64 z,.int .i64 (axe l z),.slice pa pk pc] 120))):at1 l n₀ z W (.pointer (some ⟨w3.heap.size,0,none⟩)) (w3.alloc (.cells #[.int .i64 z,.int .i64 (axe l z),.slice pa pk pc] 120)):=
 ⟨_,pa,pk,pc,rfl,hs,Blk.new _ _ _,h.below ((Below.refl w3.heap.size w3).alloc (Nat.le_refl _) _) hn,hS.2⟩
theorem al5 {l:List PM}{n₀:Nat}{z:Int}{W w3:World}{pa:Option Addr}{pk pc:Nat}{A:Prop}{z0 z1 z2:Value}(h:Ints n₀ w3 (.slice pa pk pc) (aap l z))(hn:n₀≤W.heap.size)(hq:Blk w3 W.heap.size 120 #[z0,z1,z2])
  (hS:A∧Below W.heap.size W (((w3.setCell ⟨W.heap.size,0,none⟩ (.int .i64 z)).setCell ⟨W.heap.size,1,none⟩ (.int .i64 (axe l z))).setCell ⟨W.heap.size,2,none⟩ (.slice pa pk pc))):
  at1 l n₀ z W (.pointer (some ⟨W.heap.size,0,none⟩)) (((w3.setCell ⟨W.heap.size,0,none⟩ (.int .i64 z)).setCell ⟨W.heap.size,1,none⟩ (.int .i64 (axe l z))).setCell ⟨W.heap.size,2,none⟩ (.slice pa pk pc)):=
 ⟨_,pa,pk,pc,rfl,Nat.le_refl _,hq.set3 _ _ _,h.below (abc (Nat.le_refl _)) hn,hS.2⟩
set_option maxHeartbeats 4000000 in
set_option maxRecDepth 20000 in
theorem ash (l:List PM)(hrise:(l.map PM.point).Pairwise (· < ·))(hll:l.length≤1048576)(hpl: ∀p,(aap l p).length≤131072)(v:Value)(p:Int)(n₀:Nat)(w:World)(hn₀:n₀≤w.heap.size)(hin:MIn n₀ w v l):
  Calls Tryz.prog 51 #[.agg #[v],.int .i64 p] w fun e w'=>(∃b,e=.returned (.bool b)∧(b=true↔Lead (aap l) p p))∧Below w.heap.size w w':=by
 obtain⟨a,cap,rfl⟩:=hin.val
 obtain⟨i4,hi4,hz4,hs4,hy4⟩:=info_parts a7b
 have hb0:=(Below.refl w.heap.size w).alloc (Nat.le_refl _) (.cells #[.slice a l.length cap] 28)
 have hbn:=Blk.new w 28 #[.slice a l.length cap]
 have e0:(w.alloc (.cells #[.slice a l.length cap] 28)).cell? ⟨w.heap.size,0,none⟩=some (.slice a l.length cap):=hbn.cell 0
 have hby:i4.bytes*l.length≤281474976710656:=by rw[hy4];omega
 have h63:l.length≤9223372036854775807:=by omega
 have hb1:=hb0.alloc (by simp) (.cells (madeCells #[.bool false] l.length) 4)
 have hm1:=Blk.new (w.alloc (.cells #[.slice a l.length cap] 28)) 4 (madeCells #[.bool false] l.length)
 have hd1:Blk ((w.alloc (.cells #[.slice a l.length cap] 28)).alloc (.cells (madeCells #[.bool false] l.length) 4)) w.heap.size 28 #[.slice a l.length cap]:=(Below.heap_alloc _ _ _ (by simp)).trans hbn
 rw[am9] at hm1
 rw[show (w.alloc (.cells #[.slice a l.length cap] 28)).heap.size=w.heap.size+1 by simp] at hm1
 go_enter Tryz.func51,Tryz.ntmps51
 go_upto_region 2 with (first | (refine wpList_make_row _ rfl _ _ 190 rfl 4 i4 (.bool false) Tryz.underlying190 hi4 hz4 hs4 rfl .i64 .i64 l.length rfl rfl hby h63 ?_))
 have HMD:Hid (madeCells #[.bool false] l.length=aju (List.replicate l.length false)):=am9 _
 rw[HMD.out] at hb1 hd1⊢
 have hsz1:w.heap.size+2=((w.alloc (.cells #[.slice a l.length cap] 28)).alloc (.cells (aju (List.replicate l.length false)) 4)).heap.size:=by simp
 clear hbn e0 hb0 hi4 hz4 hs4 hy4 hby h63
 generalize (w.alloc (.cells #[.slice a l.length cap] 28)).alloc (.cells (aju (List.replicate l.length false)) 4)=W at hb1 hm1 hd1 hsz1⊢
 have hbt:=(Below.refl W.heap.size W).alloc (Nat.le_refl _) (.cells #[.int .i64 p] 3)
 have hk0:BK l w a cap (W.alloc (.cells #[.int .i64 p] 3)) [p] (List.replicate l.length false) W.heap.size 0 1:=
  ⟨hd1.old hbt,hm1.old hbt,TR.one W p (by omega),hb1.trans (hbt.mono (by omega)),by simp;omega⟩
 go_upto_region 3 with fail
 generalize W.alloc (.cells #[.int .i64 p] 3)=W2 at hk0⊢
 generalize hgW:W.heap.size=gW at hk0⊢
 clear hgW hbt hd1 hm1 hb1 hsz1 W
 go_loopw [6,7,8,9,10] (fun t _ _ _ _ wr=> ∃(todo:List Int) (mt:List Bool) (x:Int) (g o c:Nat),t=.slice (some ⟨g,o,none⟩) todo.length c∧BK l w a cap wr todo mt g o c∧Hid (BF l p todo mt x [])∧mt.count false+todo.length≤l.length+1) (fun t _ _ _ _ wr=>app wr (w.heap.size+1)+a6b t)
 case atStart=>exact⟨[p],_,p,_,_,_,rfl,hk0,BF.start l p p,by simp⟩
 case round=>
  obtain⟨todo,mt,x,g,o,c,rfl,hk,HB,hcnt⟩:=hrel
  cases todo with
  | nil=>
   have HN:=BF.none HB.out
   have hbw:=hk.below
   go_wp2_with fail
   go_ret
   exact⟨⟨false,rfl,by simp[HN]⟩,hbw⟩
  | cons z ts=>
   have hhead:=hk.tr.head
   have hbox:=hk.box.cell 0
   have hszr:=hk.sz
   have hglt:=hk.tr.lt
   have hcl:=hk.tr.le
   simp only[List.length_cons] at hcnt hcl⊢
   have hHB:Hid (BF l p ts mt z (aap l z)):=BF.pop HB.out
   have s0:(wr.drew.cell? ⟨w.heap.size,0,none⟩=some (.slice a l.length cap)∧wr.drew.cell? ⟨g,o,none⟩=some (.int .i64 z))∧Below wr.heap.size wr wr.drew:=⟨⟨hbox,hhead⟩,(Below.refl _ _).drew⟩
   have HK:Hid (∀x y:World,((x.cell? ⟨w.heap.size,0,none⟩=some (.slice a l.length cap)∧x.cell? ⟨g,o,none⟩=some (.int .i64 z))∧Below wr.heap.size wr x)→Below wr.heap.size x y→((y.cell? ⟨w.heap.size,0,none⟩=some (.slice a l.length cap)∧y.cell? ⟨g,o,none⟩=some (.int .i64 z))∧Below wr.heap.size wr y)):=fun x y h1 h2=>
    ⟨⟨(h2.cell (p:=⟨w.heap.size,0,none⟩) (by show w.heap.size<_;omega)).trans h1.1.1,(h2.cell (p:=⟨g,o,none⟩) hglt).trans h1.1.2⟩,h1.2.trans h2⟩
   have HC:Hid (∀x:World,((x.cell? ⟨w.heap.size,0,none⟩=some (.slice a l.length cap)∧x.cell? ⟨g,o,none⟩=some (.int .i64 z))∧Below wr.heap.size wr x)→Calls Tryz.prog 103 #[.agg #[.slice a l.length cap],.int .i64 z] x fun e w'=>ars l z n₀ x e w'):=fun x hx=>
    ak3 l hrise hll _ z n₀ x (by have:=hx.2.size;omega) (hin.below (hk.below.trans (hx.2.mono (by omega))) hn₀)
   have hgt0:decide ((0:Int)<((ts.length+1:Nat):Int))=true:=decide_eq_true (by omega)
   have hn0r:n₀≤wr.heap.size:=by omega
   clear HB hhead hbox
   go_upto_region 4 with fail
   go_cut [7] from 17 to 69 (fun v wx=>at1 l n₀ z wr v wx)
   case first=>
    go_region_held (fun x=>(x.cell? ⟨w.heap.size,0,none⟩=some (.slice a l.length cap)∧x.cell? ⟨g,o,none⟩=some (.int .i64 z))∧Below wr.heap.size wr x) (first | exact s0 | assumption | exact HK.out _ _ (by assumption) (ab3 (by assumption) (by assumption)) | exact HK.out _ _ (by assumption) (ai6 (by assumption)) | exact HK.out _ _ (by assumption) (agr (Nat.le_refl _)) | exact HK.out _ _ (by assumption) (af4 (by first | exact Nat.le_refl _ | exact hb3.size)) | exact HK.out _ _ (by assumption) (abc (Nat.le_refl _))) ((go_at_call 103;refine(HC.out _ (by assumption)).mono ?_;rintro e w3 ⟨hb3,pa,pk,pc,rfl,hpi3⟩;try (have hq3:=arj hb3;obtain⟨⟨q0,q1,q2⟩,qf0,qf1,qf2⟩:=abo hq3)))
    all_goals go_wp2_with fail
    all_goals go_meet
    case rel=>first | exact al6 hpi3 (Nat.le_trans hn0r hb3.size) hb3.size (by assumption) | exact al5 hpi3 hn0r hq3 (by assumption)
    case rel=>first | exact al6 hpi3 (Nat.le_trans hn0r hb3.size) hb3.size (by assumption) | exact al5 hpi3 hn0r hq3 (by assumption)
   case rest=>
    obtain⟨bM,pa,pk,pc,rfl,hbM,hblk,hpi,hbc⟩:=hcut
    have hkc:=hk.old hbc
    have HHK:Hid (app wr (w.heap.size+1)=mt.count false):=at4 hk.met
    have hpk:pk=(aap l z).length:=by obtain⟨_,_,e⟩:=hpi.val;cases e;rfl
    have hpkl:=hpl z
    clear s0 HK HC hbc
    have hbM2:w.heap.size+2≤bM:=by omega
    clear hbM
    go_upto_region 5 with fail
    go_cut [6] from 17 to 69 (fun v wx=> ∃g o c,v=.slice (some ⟨g,o,none⟩) ts.length c∧BK l w a cap wx ts mt g o c∧wx=wc)
    case first=>
     by_cases hc1:c=1
     ·subst hc1
      have htl:ts=[]∧TR wc (w.heap.size+2) g o 0 []:=hkc.tr.tail1
      obtain⟨rfl,ht⟩:=htl
      go_wp2_with fail
      go_meet
      exact⟨g,o,0,rfl,⟨hkc.box,hkc.met,ht,hkc.below,hkc.sz⟩,rfl⟩
     ·have ht:=hkc.tr.tail hc1
      go_wp2_with fail
      go_meet
      exact⟨g,o+1,c-1,rfl,⟨hkc.box,hkc.met,ht,hkc.below,hkc.sz⟩,rfl⟩
    case rest=>
     obtain⟨g2,o2,c2,rfl,hk2,hwe⟩:=hcut
     subst hwe
     have hpi0:=hpi.back hk2.below hn₀
     have HHB:Hid (BF l p ts mt z (aap l z)):=hHB
     have HPK:Hid (pk=(aap l z).length):=hpk
     have hpk2:pk≤131072:=by omega
     clear hpi hHB hpk hkc hpkl hk hglt hcl hgt0 hszr hn0r
     generalize axe l z=cz at hblk
     generalize aap l z=ps at hpi0 HHB HPK
     go_wp2_with fail
     go_loopw [6,8,9,10] (fun t i _ _ wx=> ∃(td:List Int) (m2:List Bool) (g o c j:Nat),t=.slice (some ⟨g,o,none⟩) td.length c∧i=.int .i64 j∧j≤pk∧BK l w a cap wx td m2 g o c∧Hid (BF l p td m2 z (ps.drop j))∧m2.count false+td.length=mt.count false+ts.length∧Blk wx bM 120 #[.int .i64 z,.int .i64 cz,.slice pa pk pc]) (fun _ i _ _ _=>pk-(intOf i).toNat)
     case atStart=>exact⟨ts,mt,g2,o2,c2,0,rfl,rfl,by omega,hk2,by simpa using HHB,rfl,hblk⟩
     case round=>
      clear hk2 hblk
      obtain⟨td,m2,g,o,c,j,rfl,rfl,hj,hk,HB,hsum,hblk⟩:=hrel
      have hM2:_:=hblk.cell 2
      simp only[show (#[Value.int .i64 z,.int .i64 cz,.slice pa pk pc]:Array Value)[2]? =some (.slice pa pk pc) from rfl] at hM2
      by_cases hlt:j<pk
      ·have hltp:j<ps.length:=by rw[←HPK.out];exact hlt
       have hps:ps≠ []:=fun e=>by subst e;simp at hltp
       have hpr:Ints n₀ wr (.slice pa pk pc) ps:=hpi0.below hk.below hn₀
       obtain⟨b,off,hao,hnk,hblt,hcell⟩:=hpr.cell hps
       subst hao
       have hcj:=hcell j hltp
       rw[show ps[j]?.getD 0=ps[j] by simp[List.getElem?_eq_getElem hltp]] at hcj
       have hd:ps.drop j=ps[j]::ps.drop (j+1):=List.drop_eq_getElem_cons hltp
       have HB2:Hid (BF l p td m2 z (ps[j]::ps.drop (j+1))):=by rw[←hd];exact HB
       generalize ps[j]=q at hcj HB2
       clear HB hd hcell hnk hpr
       have hbw:=hk.below
       have hszr:=hk.sz
       by_cases hqp:q=p
       ·subst hqp
        have HL:=BF.found HB2.out
        have hqq:(q==q)=true:=by simp
        go_wp2_with fail
        go_ret
        exact⟨⟨true,rfl,by simp[HL]⟩,hbw⟩
       ·have hqq:(q==p)=false:=by simp[hqp]
        have s0:(wr.drew.cell? ⟨w.heap.size,0,none⟩=some (.slice a l.length cap)∧wr.drew.cell? ⟨bM,2,none⟩=some (.slice (some ⟨b,off,none⟩) pk pc)∧wr.drew.cell? ⟨b,off+j,none⟩=some (.int .i64 q))∧Below wr.heap.size wr wr.drew:=⟨⟨hk.box.cell 0,hM2,hcj⟩,(Below.refl _ _).drew⟩
        have hbMl:=hblk.lt
        have HK:Hid (∀x y:World,((x.cell? ⟨w.heap.size,0,none⟩=some (.slice a l.length cap)∧x.cell? ⟨bM,2,none⟩=some (.slice (some ⟨b,off,none⟩) pk pc)∧x.cell? ⟨b,off+j,none⟩=some (.int .i64 q))∧Below wr.heap.size wr x)→Below wr.heap.size x y→((y.cell? ⟨w.heap.size,0,none⟩=some (.slice a l.length cap)∧y.cell? ⟨bM,2,none⟩=some (.slice (some ⟨b,off,none⟩) pk pc)∧y.cell? ⟨b,off+j,none⟩=some (.int .i64 q))∧Below wr.heap.size wr y)):=fun x y h1 h2=>
         ⟨⟨(h2.cell (p:=⟨w.heap.size,0,none⟩) (by show w.heap.size<_;omega)).trans h1.1.1,(h2.cell (p:=⟨bM,2,none⟩) hbMl).trans h1.1.2.1,(h2.cell (p:=⟨b,off+j,none⟩) (by show b<_;omega)).trans h1.1.2.2⟩,h1.2.trans h2⟩
        have HC:Hid (∀x:World,((x.cell? ⟨w.heap.size,0,none⟩=some (.slice a l.length cap)∧x.cell? ⟨bM,2,none⟩=some (.slice (some ⟨b,off,none⟩) pk pc)∧x.cell? ⟨b,off+j,none⟩=some (.int .i64 q))∧Below wr.heap.size wr x)→Calls Tryz.prog 50 #[.agg #[.slice a l.length cap],.int .i64 q] x fun e w'=>art l q x e w'):=fun x hx=>
         agz l hrise hll _ q n₀ x (by have:=hx.2.size;omega) (hin.below (hk.below.trans (hx.2.mono (by omega))) hn₀)
        go_upto_region 11 with fail
        go_cut [9,10] from 27 to 69 (fun u y wx=> ∃(k:Nat) (bb:Bool),u=.int .i64 k∧y=.bool bb∧((bb=true∧ ∃h:k<l.length,(l[k]).point=q)∨(bb=false∧ ∀i (h:i<l.length),(l[i]).point≠q))∧Below wr.heap.size wr wx)
        case first=>
         go_region_held (fun x=>(x.cell? ⟨w.heap.size,0,none⟩=some (.slice a l.length cap)∧x.cell? ⟨bM,2,none⟩=some (.slice (some ⟨b,off,none⟩) pk pc)∧x.cell? ⟨b,off+j,none⟩=some (.int .i64 q))∧Below wr.heap.size wr x) (first | exact s0 | assumption | exact HK.out _ _ (by assumption) (ab3 (by assumption) (by assumption))) ((go_at_call 50;refine(HC.out _ (by assumption)).mono ?_;rintro e w3 ⟨k,bb,hpa,rfl,hbb,hb3⟩))
         all_goals go_wp2_with fail
         all_goals go_meet
         case rel=>exact⟨k,bb,rfl,rfl,hbb,And.right (by assumption)⟩
        case rest=>
         obtain⟨k,bb,rfl,rfl,hbb,hbc⟩:=hcut
         have hkc:=hk.old hbc
         have hblkc:=hblk.old hbc
         have hM2c:wc.cell? ⟨bM,2,none⟩=some (.slice (some ⟨b,off,none⟩) pk pc):=(hbc.cell (p:=⟨bM,2,none⟩) hbMl).trans hM2
         have hcjc:wc.cell? ⟨b,off+j,none⟩=some (.int .i64 q):=(hbc.cell (p:=⟨b,off+j,none⟩) (by show b<_;omega)).trans hcj
         clear s0 HK HC hk hblk hM2 hcj
         rcases hbb with ⟨rfl,hkl,hkq⟩ | ⟨rfl,hno⟩
         ·obtain⟨bv,hbv⟩: ∃bv,m2[k]? =some bv:=⟨_,List.getElem?_eq_getElem (by rw[HB2.out.len];exact hkl)⟩
          have hmc:wc.cell? ⟨w.heap.size+1,k,none⟩=some (.bool bv):=(hkc.met.cell k).trans (a3j hbv)
          have hmf:wc.frozen? ⟨w.heap.size+1,k,none⟩=false:=hkc.met.frozen k
          cases bv with
          | true=>
           have HB3:Hid (BF l p td m2 z (ps.drop (j+1))):=BF.pass HB2.out hqp fun i hi e=>by
            have:i=k:=by
             rcases Nat.lt_trichotomy i k with h1 | h1 | h1
             ·have:=agw hrise hi hkl h1;omega
             ·exact h1
             ·have:=agw hrise hkl hi h1;omega
            rw[this];exact hbv
           clear hkq
           go_wp2_with fail
           go_roundw
           case rel=>exact⟨td,m2,g,o,c,j+1,rfl,by go_num,by omega,hkc,HB3,hsum,hblkc⟩
           case measure=>simp only[intOf];omega
          | false=>
           have HB3:Hid (BF l p (td++[q]) (m2.set k true) z (ps.drop (j+1))):=BF.meet hrise HB2.out hqp hkl hkq
           have hct:=a0l hbv
           have hkm:=hkc.mark k
           have hblkm:Blk (wc.setCell ⟨w.heap.size+1,k,none⟩ (.bool true)) bM 120 _:=(Below.heap_setCell wc ⟨w.heap.size+1,k,none⟩ _ bM (by show bM≠w.heap.size+1;omega)).trans hblkc
           have hcjm:(wc.setCell ⟨w.heap.size+1,k,none⟩ (.bool true)).cell? ⟨b,off+j,none⟩=some (.int .i64 q):=(((Below.refl w.heap.size wc).setCell (p:=⟨w.heap.size+1,k,none⟩) (by show w.heap.size≤w.heap.size+1;omega) (.bool true)).cell (p:=⟨b,off+j,none⟩) (by show b<_;omega)).trans hcjc
           have hM2m:(wc.setCell ⟨w.heap.size+1,k,none⟩ (.bool true)).cell? ⟨bM,2,none⟩=some (.slice (some ⟨b,off,none⟩) pk pc):=hblkm.cell 2
           clear hkq
           go_upto_region 14 with fail
           clear hM2c hcjc hmc hmf hkc hblkc hbc
           generalize wc.setCell ⟨w.heap.size+1,k,none⟩ (.bool true)=wm at hkm hblkm hcjm hM2m⊢
           have hlen:td.length≤1099511627776:=by omega
           have hszm:=hkm.sz
           have htm:=hkm.tr
           go_wp2_with (first | (at_builtin;refine aik rfl _ _ rfl (w.heap.size+2) g o c td rfl htm q rfl hlen hszm ?_;intro g9 o9 c9 w9 ht9 hg9))
           have HK9:Hid (BK l w a cap w9 (td++[q]) (m2.set k true) g9 o9 c9):=hkm.put hg9 ht9
           have HB9:Hid (Blk w9 bM 120 #[.int .i64 z,.int .i64 cz,.slice (some ⟨b,off,none⟩) pk pc]):=by
            have h1:=hblkm.old ((Below.refl wm.heap.size wm).alloc (Nat.le_refl _) (.cells #[.int .i64 q] 3))
            refine(hg9.block bM h1.lt fun e=> ?_).trans h1
            cases e
            obtain⟨cur,h2,_⟩:=htm.blk
            have h3:=(show wm.heap[bM]? =_ from hblkm).symm.trans h2
            simp only[Option.some.injEq,Obj.cells.injEq] at h3
            exact absurd h3.2.1 (by decide)
           clear hg9 ht9
           try go_wp2_with fail
           go_roundw
           case rel=>exact⟨td++[q],m2.set k true,g9,o9,c9,j+1,by rw[List.length_append];rfl,by go_num,by omega,HK9.out,HB3,by rw[List.length_append,List.length_singleton];omega,HB9.out⟩
           case measure=>simp only[intOf];omega
         ·have HB3:Hid (BF l p td m2 z (ps.drop (j+1))):=BF.pass HB2.out hqp fun i hi e=>absurd e (hno i hi)
          clear hno
          go_wp2_with fail
          go_roundw
          case rel=>exact⟨td,m2,g,o,c,j+1,rfl,by go_num,by omega,hkc,HB3,hsum,hblkc⟩
          case measure=>simp only[intOf];omega
      ·have hdr:ps.drop j=[]:=List.drop_of_length_le (by rw[←HPK.out];omega)
       have HB2:Hid (BF l p td m2 z []):=by rw[←hdr];exact HB
       have HU:Hid (app wr (w.heap.size+1)=m2.count false):=at4 hk.met
       go_wp2_with fail
       go_roundw
       case rel=>exact⟨td,m2,z,g,o,c,rfl,hk,HB2,by omega⟩
       case measure=>
        simp only[a6b]
        rw[HU.out,HHK.out]
        omega
theorem ab1 {w:World}{ops:Array Oper}{rest:List Oper}{o:Oper}{a:Act}{Q:Exit→Act→World→Prop}(hgd:o.guard=none)(s x:Operand)
  (ho:o.op=.call {callee:=.builtin .append,args:= #[s,x],argTypes:= #[26,26]})
  (base:Nat) (v:Value) (n:Nat) (xs:List Value) (hs:a.eval s=v) (hown:w.ownsRow base 120 3 v n xs) (pa:Option Addr) (m pc:Nat) (news:List Value) (hx:a.eval x=.slice pa m pc) (hn:news.length=m*3)
  (hc:m≠0→ ∃ad,pa=some ad∧ ∀j u,news[j]? =some u→w.cell? (ad.add j)=some u) (h1: ∀u∈news,u.oneCell'=true) (hlen:n+m≤1048576) (hbase:base≤w.heap.size)
  (h: ∀a' c' w',w'.ownsRow base 120 3 (.slice a' (n+m) c') (n+m) (xs++news)→w.grownBy w' v.ownBlock→((Value.slice a' (n+m) c').ownBlock=v.ownBlock∨(Value.slice a' (n+m) c').ownBlock=some w.heap.size)→wpList Tryz.prog ops Q rest (a.put o.dst (.slice a' (n+m) c')) w'):
  wpList Tryz.prog ops Q (o::rest) a w:=by
 obtain⟨i,hi,hz,hsz,hby⟩:=info_parts azn
 by_cases hm:m=0
 ·subst hm
  have hnil:news=[]:=List.eq_nil_of_length_eq_zero (by omega)
  subst hnil
  obtain⟨a',c',rfl⟩:=aay hown
  have hle:n≤c':=by
   by_cases h0:0<n
   ·obtain⟨_,_,e,h2,_⟩:=at8 hown h0
    cases e;exact h2
   ·omega
  have hr:(Builtin.append_ #[26,26] o.type #[.slice a' n c',.slice pa 0 pc]).run Tryz.prog w=.ok (.slice a' n c') w:=by
   cases pa with
   | none=>exact run_append_nothing (P:=Tryz.prog) w 26 26 o.type 120 i Tryz.underlying26 hi a' n c' hle _ (Src.ofNil w Tryz.underlying26 pc)
   | some ad=>exact run_append_nothing (P:=Tryz.prog) w 26 26 o.type 120 i Tryz.underlying26 hi a' n c' hle _ (Src.ofSlice w Tryz.underlying26 ad 0 pc [] (by simp) (by simp) (by simp))
  refine wpList_plain hgd fun K hK=> ?_
  unfold Oper.wp execOp
  simp only[ho,resolve,invoke,builtin,Sem.run_bind,Sem.run_pure,Result.andThen_ok,List.map_toArray,List.map_cons,List.map_nil,hs,hx,hr]
  have:=h a' c' w (by rw[List.append_nil];exact hown) (World.grownBy.refl _ _) (.inl rfl)
  exact hK _ _ this
 ·obtain⟨ad,rfl,hcell⟩:=hc hm
  refine wpList_append_own_at (P:=Tryz.prog) _ hgd s x 26 ho base 120 i _ 3 40 Tryz.underlying26 hi hz hsz hby rfl (by decide) v n xs hs hown ad m pc news hx hn hcell h1 ?_ ?_ ?_ ?_
  ·unfold maxLen;omega
  ·omega
  ·omega
  ·intro v' w' h1 h2 _ h4
   obtain⟨a',c',rfl⟩:=aay h1
   exact h a' c' w' h1 h2 h4
end Go.Proofs.YtpfkoldfbecdlaaGreatDoor
