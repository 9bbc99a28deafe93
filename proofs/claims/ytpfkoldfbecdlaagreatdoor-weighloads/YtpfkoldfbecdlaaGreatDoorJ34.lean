/- Contracts and lemmas (nothing is claimed here). -/
import Derived.Test.YtpfkoldfbecdlaaGreatDoorJ33
namespace Go.Proofs.YtpfkoldfbecdlaaGreatDoor
open Go.RowKit Go.Vf Go.Maps
theorem ava (G:Int→List Int)(k:Nat)(p:Int):(whF G 18 k [] p).length≤19∧(18<(whF G 18 k [] p).length↔18<(wh G k p).length):=by
 rw[a3q G 18 k [] p (by simp),List.nil_append,List.length_take]
 omega
theorem ak8 {t:List UInt8}{L:List Mk}(hlen:t.length≤65536)(hl:aar (aa5 10 t) 0 []=.ok L)(p:Int):(∀q∈aap (aai L) p,ac1 q=false)∧(aap (aai L) p).length≤131072:=by
 obtain⟨hok,hnd,_,hs,_⟩:=abk hlen hl
 rw[aj1 hnd]
 refine⟨fun q hq=> ?_,?_⟩
 ·obtain⟨m,hm,_,hq'⟩:=ae0 hq
  exact ah5 ((hok m hm).2.1 q hq')
 ·unfold aac
  cases hm:aau L p with
  | none=>simp
  | some m=>
   have:=aoc (List.mem_of_find?_eq_some hm)
   simp
   omega
theorem asm {t:List UInt8}{L:List Mk}(hlen:t.length≤65536)(hl:aar (aa5 10 t) 0 []=.ok L){m:Mk}(hm:m∈L):ac1 m.point=false:=ah5 ((abk hlen hl).1 m hm).1
theorem am8 {L:List Mk}(p:Int):(∃i,∃h:i<(aai L).length,((aai L)[i]).point=p)↔L.any (fun m=>m.point==p)=true:=by
 have hmem:p∈(aai L).map PM.point↔p∈L.map Mk.point:=by rw[aeh];exact(List.mergeSort_perm _ _).mem_iff
 constructor
 ·rintro⟨i,h,e⟩
  have:=hmem.1 (List.mem_map.2 ⟨_,List.getElem_mem h,e⟩)
  obtain⟨m,hm,e2⟩:=List.mem_map.1 this
  exact List.any_eq_true.2 ⟨m,hm,by simp[e2]⟩
 ·intro h
  obtain⟨m,hm,e⟩:=List.any_eq_true.1 h
  obtain⟨x,hx,e2⟩:=List.mem_map.1 (hmem.2 (List.mem_map.2 ⟨m,hm,by simpa using e⟩))
  obtain⟨i,hi,e3⟩:=List.mem_iff_getElem.1 hx
  exact⟨i,hi,by rw[e3];exact e2⟩
theorem aqp {C:List (List UInt8)}{j:Nat}(hj:j<C.length){n:Int}{acc:List Mk}(h:aax C[j]=true):aar (C.drop j) n acc=aar (C.drop (j+1)) (n+1) acc:=by
 rw[List.drop_eq_getElem_cons hj,aar,if_pos h]
theorem awc {C:List (List UInt8)}{j:Nat}(hj:j<C.length){n:Int}{acc:List Mk}(h:aax C[j]=false)(hm:ace C[j]=none):aar (C.drop j) n acc=.error (40,n+1):=by
 rw[List.drop_eq_getElem_cons hj,aar,if_neg (by simp[h]),hm]
theorem as2 {C:List (List UInt8)}{j:Nat}(hj:j<C.length){n p c:Int}{ps:List Int}{acc:List Mk}(h:aax C[j]=false)(hm:ace C[j]=some (p,c,ps))(ha:acc.any (fun m=>m.point==p)=true):aar (C.drop j) n acc=.error (41,n+1):=by
 rw[List.drop_eq_getElem_cons hj,aar,if_neg (by simp[h]),hm]
 simp only[ha,if_true]
theorem awe {C:List (List UInt8)}{j:Nat}(hj:j<C.length){n p c:Int}{ps:List Int}{acc:List Mk}(h:aax C[j]=false)(hm:ace C[j]=some (p,c,ps))(ha:acc.any (fun m=>m.point==p)=false)(hl:4096≤acc.length):aar (C.drop j) n acc=.error (2,n+1):=by
 rw[List.drop_eq_getElem_cons hj,aar,if_neg (by simp[h]),hm]
 simp only[ha]
 simp[hl]
theorem awd {C:List (List UInt8)}{j:Nat}(hj:j<C.length){n p c:Int}{ps:List Int}{acc:List Mk}(h:aax C[j]=false)(hm:ace C[j]=some (p,c,ps))(ha:acc.any (fun m=>m.point==p)=false)(hl:acc.length<4096):aar (C.drop j) n acc=aar (C.drop (j+1)) (n+1) (acc++[⟨n+1,p,c,ps⟩]):=by
 rw[List.drop_eq_getElem_cons hj,aar,if_neg (by simp[h]),hm]
 simp only[ha]
 simp[show ¬4096≤acc.length by omega]
theorem ay7 {C:List (List UInt8)}{j:Nat}(hj:C.length≤j){n:Int}{acc:List Mk}:aar (C.drop j) n acc=.ok acc:=by
 rw[List.drop_of_length_le hj,aar]
structure LJ (w:World)(vl:Value)(C:List (List UInt8))(lp la:List Int)(l:List PM)(vp va vm:Value)(ps:List (PM×Value))(wr:World):Prop where
 res:Blk wr w.heap.size 28 #[.slice none 0 0]
 box:Blk wr (w.heap.size+1) 28 #[vm]
 lines:SOwn wr w.heap.size vl C
 points:IOwn wr w.heap.size vp lp
 ats:IOwn wr w.heap.size va la
 marks:wr.ownsRow w.heap.size 120 3 vm ps.length (abu ps)
 parts: ∀x∈ps,IOwn wr w.heap.size x.2 x.1.parts
 is:ps.map Prod.fst=l
 sepA:Apt vp va
 sepP: ∀x∈ps,Apt vp x.2∧Apt va x.2
 below:Below w.heap.size w wr
section
variable {w:World}{vl:Value}{C:List (List UInt8)}{lp la:List Int}{l:List PM}{vp va vm:Value}{ps:List (PM×Value)}{wr:World}
theorem LJ.go (h:LJ w vl C lp la l vp va vm ps wr){w':World}(hb:Below wr.heap.size wr w'):LJ w vl C lp la l vp va vm ps w' where
 res:=h.res.below hb h.res.lt
 box:=h.box.below hb h.box.lt
 lines:=aae h.lines hb
 points:=aae h.points hb
 ats:=aae h.ats hb
 marks:=aae h.marks hb
 parts:=fun x hx=>aae (h.parts x hx) hb
 is:=h.is
 sepA:=h.sepA
 sepP:=h.sepP
 below:=h.below.trans (hb.mono h.below.size)
theorem LJ.mown (h:LJ w vl C lp la l vp va vm ps wr):MOwn wr w.heap.size vm ps:=⟨h.marks,h.parts⟩
theorem LJ.min (h:LJ w vl C lp la l vp va vm ps wr):MIn wr.heap.size wr vm l:=by
 have:=h.mown.min
 rw[h.is] at this
 exact this
theorem LJ.point (h:LJ w vl C lp la l vp va vm ps wr){w':World}{vp':Value}{lp':List Int}(hg:wr.grownBy w' vp.ownBlock)(ho:IOwn w' w.heap.size vp' lp')(hat:vp'.ownBlock=vp.ownBlock∨vp'.ownBlock=some wr.heap.size):LJ w vl C lp' la l vp' va vm ps w' where
 res:=ag8 h.res h.points (by decide) hg
 box:=ag8 h.box h.points (by decide) hg
 lines:=acs h.lines hg (afb h.points h.lines (by decide))
 points:=ho
 ats:=acs h.ats hg h.sepA
 marks:=acs h.marks hg (afb h.points h.marks (by decide))
 parts:=fun x hx=>acs (h.parts x hx) hg (h.sepP x hx).1
 is:=h.is
 sepA:=fun g hg1 hg2=>by
  rcases hat with e | e
  ·exact h.sepA g (e.symm.trans hg1) hg2
  ·rw[e] at hg1
   have:=amz h.ats hg2
   simp at hg1
   omega
 sepP:=fun x hx=>⟨fun g hg1 hg2=>by
  rcases hat with e | e
  ·exact(h.sepP x hx).1 g (e.symm.trans hg1) hg2
  ·rw[e] at hg1
   have:=amz (h.parts x hx) hg2
   simp at hg1
   omega,(h.sepP x hx).2⟩
 below:=h.below.grown hg h.below.size (fun k hk=>(aal h.points hk).1)
theorem LJ.at (h:LJ w vl C lp la l vp va vm ps wr){w':World}{va':Value}{la':List Int}(hg:wr.grownBy w' va.ownBlock)(ho:IOwn w' w.heap.size va' la')(hat:va'.ownBlock=va.ownBlock∨va'.ownBlock=some wr.heap.size):LJ w vl C lp la' l vp va' vm ps w' where
 res:=ag8 h.res h.ats (by decide) hg
 box:=ag8 h.box h.ats (by decide) hg
 lines:=acs h.lines hg (afb h.ats h.lines (by decide))
 points:=acs h.points hg h.sepA.symm
 ats:=ho
 marks:=acs h.marks hg (afb h.ats h.marks (by decide))
 parts:=fun x hx=>acs (h.parts x hx) hg (h.sepP x hx).2
 is:=h.is
 sepA:=fun g hg1 hg2=>by
  rcases hat with e | e
  ·exact h.sepA g hg1 (e.symm.trans hg2)
  ·rw[e] at hg2
   have:=amz h.points hg1
   simp at hg2
   omega
 sepP:=fun x hx=>⟨(h.sepP x hx).1,fun g hg1 hg2=>by
  rcases hat with e | e
  ·exact(h.sepP x hx).2 g (e.symm.trans hg1) hg2
  ·rw[e] at hg1
   have:=amz (h.parts x hx) hg2
   simp at hg1
   omega⟩
 below:=h.below.grown hg h.below.size (fun k hk=>(aal h.ats hk).1)
theorem LJ.mark (h:LJ w vl C lp la l vp va vm ps wr){vm':Value}{ps':List (PM×Value)}{l':List PM}{b:Nat}(hr:wr.ownsRow b 120 3 vm' ps'.length (abu ps'))(hb:w.heap.size≤b)(hp: ∀x∈ps',IOwn wr w.heap.size x.2 x.1.parts∧Apt vp x.2∧Apt va x.2)(hl:ps'.map Prod.fst=l'):
  LJ w vl C lp la l' vp va vm' ps' (wr.setCell ⟨w.heap.size+1,0,none⟩ vm'):=by
 have hk: ∀ {b1:Nat} {e1:TypeId} {s1 k1:Nat} {v1:Value} {x1:List Value},e1≠28→wr.ownsRow b1 e1 s1 v1 k1 x1→(wr.setCell ⟨w.heap.size+1,0,none⟩ vm').ownsRow b1 e1 s1 v1 k1 x1:=fun ht h1=>adj h1 (fun g hg=>Below.heap_setCell wr ⟨w.heap.size+1,0,none⟩ _ g (by
  intro e
  have e':g=w.heap.size+1:=e
  subst e'
  obtain⟨_,c,f,q⟩:=aal h1 hg
  have:=q.symm.trans h.box
  simp only[Option.some.injEq,Obj.cells.injEq] at this
  exact ht this.2.1))
 refine⟨(Below.heap_setCell wr ⟨w.heap.size+1,0,none⟩ _ w.heap.size (by show w.heap.size≠w.heap.size+1;omega)).trans h.res,?_,hk (by decide) h.lines,hk (by decide) h.points,hk (by decide) h.ats,aah (hk (by decide) hr) hb,fun x hx=>hk (by decide) (hp x hx).1,hl,h.sepA,fun x hx=>(hp x hx).2,h.below.setCell (by show w.heap.size≤w.heap.size+1;omega) _⟩
 have:=h.box.set 0 vm'
 simpa using this
end
theorem abl {tmps:Array Value}{w:World}{h:Nat}{x a b:Value}(hb:Blk w h 28 #[x])(t2:tmps[2]?.getD undef=.pointer (some ⟨h,0,none⟩))(t3:tmps[3]?.getD undef=a)(t4:tmps[4]?.getD undef=b):
  (results Tryz.f19 tmps).run Tryz.prog w=.ok (.tuple #[.agg #[x],a,b]) w:=by
 have c0:w.cell? ⟨h,0,none⟩=some x:=hb.cell 0
 simp[results,Tryz.results19,go_sem,t2,t3,t4,c0]
theorem MIn.up {n₀ n:Nat}{x:World}{v:Value}{l:List PM}(hn:n₀≤n):MIn n₀ x v l→MIn n x v l
 | .inl e=>.inl e
 | .inr ⟨b,off,cap,e,hb,hc⟩=>.inr ⟨b,off,cap,e,Nat.lt_of_lt_of_le hb hn,fun j hj=>by
  obtain⟨pa,pk,pc,h1,h2,h3,h4⟩:=hc j hj
  exact⟨pa,pk,pc,h1,h2,h3,h4.mono hn⟩⟩
theorem MIn.go {x y:World}{v:Value}{l:List PM}(h:MIn x.heap.size x v l)(hb:Below x.heap.size x y):MIn y.heap.size y v l:=MIn.up hb.size (h.below hb (Nat.le_refl _))
theorem ag4 (a b:List (PM×Value)):abu (a++b)=abu a++abu b:=by simp[abu]
theorem aqy {w:World}{base:Nat}{ps:List (PM×Value)}(h: ∀x∈ps,IOwn w base x.2 x.1.parts): ∀u∈abu ps,u.oneCell'=true:=fun u hu=>by
 obtain⟨x,hx,hu⟩:=List.mem_flatMap.1 hu
 obtain⟨a,c,e⟩:=(h x hx).val
 simp only[List.mem_cons,List.not_mem_nil,or_false] at hu
 rcases hu with rfl | rfl | rfl
 ·rfl
 ·rfl
 ·rw[e];rfl
theorem alt {w:World}{base n mc g:Nat}{ps:List (PM×Value)}(h:w.ownsRow base 120 3 (.slice (some ⟨g,0,none⟩) n mc) ps.length (abu ps))(k0:Nat)(hk:k0≤ps.length):
  (∀j u,(abu (ps.take k0))[j]? =some u→w.cell? ((⟨g,0,none⟩:Addr).add j)=some u)∧(∀j u,(abu (ps.drop k0))[j]? =some u→w.cell? ((⟨g,k0*3,none⟩:Addr).add j)=some u)∧base≤g∧g<w.heap.size∧ps.length≤mc:=by
 rcases h.2 with ⟨e0,hz0⟩ | ⟨g',cap,cur,e,hb,hg,hc,hm,hs,htk⟩
 ·cases e0
 ·obtain⟨e1,_,rfl⟩:=Value.slice.inj e
  cases e1
  have hall: ∀j u,(abu ps)[j]? =some u→w.cell? ⟨g,j,none⟩=some u:=fun j u hu=>by
   rw[←htk] at hu
   have hj:=(List.getElem?_eq_some_iff.1 hu).1
   rw[List.getElem?_take_of_lt (by rw[List.length_take] at hj;omega)] at hu
   simp only[World.cell?,hg]
   simpa using hu
  have hsp:abu ps=abu (ps.take k0)++abu (ps.drop k0):=by rw[←ag4,List.take_append_drop]
  have hlt:(abu (ps.take k0)).length=k0*3:=by rw[als,List.length_take];omega
  refine⟨fun j u hu=> ?_,fun j u hu=> ?_,hb,(Array.getElem?_eq_some_iff.1 hg).1,hc⟩
  ·rw[Go.WideShapes.add_plain,Nat.zero_add]
   refine hall j u ?_
   rw[hsp,List.getElem?_append_left (List.getElem?_eq_some_iff.1 hu).1]
   exact hu
  ·rw[show (⟨g,k0*3,none⟩:Addr).add j=⟨g,k0*3+j,none⟩ by simp[Addr.add]]
   refine hall (k0*3+j) u ?_
   rw[hsp,List.getElem?_append_right (by omega),hlt,Nat.add_sub_cancel_left]
   exact hu
theorem LJ.fin {w:World}{vl:Value}{C:List (List UInt8)}{lp la:List Int}{l:List PM}{vp va vm:Value}{ps:List (PM×Value)}{wr:World}(h:LJ w vl C lp la l vp va vm ps wr)(v:Value):MIn (wr.setCell ⟨w.heap.size,0,none⟩ v).heap.size (wr.setCell ⟨w.heap.size,0,none⟩ v) vm l:=by
 have hk: ∀ {b1:Nat} {e1:TypeId} {s1 k1:Nat} {v1:Value} {x1:List Value},e1≠28→wr.ownsRow b1 e1 s1 v1 k1 x1→(wr.setCell ⟨w.heap.size,0,none⟩ v).ownsRow b1 e1 s1 v1 k1 x1:=fun ht h1=>adj h1 (fun g hg=>Below.heap_setCell wr ⟨w.heap.size,0,none⟩ _ g (by
  intro e
  have e':g=w.heap.size:=e
  subst e'
  obtain⟨_,c,f,q⟩:=aal h1 hg
  have:=q.symm.trans h.res
  simp only[Option.some.injEq,Obj.cells.injEq] at this
  exact ht this.2.1))
 have hm:MOwn (wr.setCell ⟨w.heap.size,0,none⟩ v) w.heap.size vm ps:=⟨hk (by decide) h.marks,fun x hx=>hk (by decide) (h.parts x hx)⟩
 have:=hm.min
 rw[h.is] at this
 exact this
end Go.Proofs.YtpfkoldfbecdlaaGreatDoor
