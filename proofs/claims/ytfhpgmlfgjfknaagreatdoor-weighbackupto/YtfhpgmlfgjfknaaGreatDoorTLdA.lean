/- What the document's table keeps in memory while it reads lines (lemmas; nothing is claimed here). -/
import Derived.Test.YtfhpgmlfgjfknaaGreatDoorJ36
import Derived.Test.YtfhpgmlfgjfknaaGreatDoorJ34
namespace Go.Proofs.YtfhpgmlfgjfknaaGreatDoor
open Go.RowKit Go.Vf Go.Maps
theorem aup: ∀a b:List Int,0<aaj a b→aaj b a<0:=by
 intro a
 induction a with
 | nil=>intro b h;cases b<;>simp[aaj] at h
 | cons x a ih=>
  intro b h
  cases b with
  | nil=>simp[aaj]
  | cons y b=>
   simp only[aaj] at h⊢
   by_cases h1:x<y
   ·rw[if_pos h1] at h;omega
   ·rw[if_neg h1] at h
    by_cases h2:y<x
    ·rw[if_pos h2];omega
    ·rw[if_neg h2] at h
     rw[if_neg h2,if_neg h1]
     exact ih b h
theorem ay4 {l:List Ent}{x:Ent}{k:Nat}(hr:am0 l)(hp:PlaceE l x.1 k)(hno: ∀i (h:i<l.length),(l[i]).1≠x.1):am0 (l.take k++[x]++l.drop k):=by
 unfold am0 at hr⊢
 rw[List.map_append,List.map_append,List.append_assoc,List.pairwise_append]
 have hsp:l.map Prod.fst=(l.take k).map Prod.fst++(l.drop k).map Prod.fst:=by rw[←List.map_append,List.take_append_drop]
 rw[hsp,List.pairwise_append] at hr
 have hlo: ∀a∈(l.take k).map Prod.fst,aaj a x.1<0:=fun a ha=>by
  obtain⟨y,hy,rfl⟩:=List.mem_map.1 ha
  obtain⟨i,hi,rfl⟩:=List.mem_iff_getElem.1 hy
  rw[List.length_take] at hi
  rw[List.getElem_take]
  exact hp.lo i (by omega) (by omega)
 have hhi: ∀a∈(l.drop k).map Prod.fst,aaj x.1 a<0:=fun a ha=>by
  obtain⟨y,hy,rfl⟩:=List.mem_map.1 ha
  obtain⟨i,hi,rfl⟩:=List.mem_iff_getElem.1 hy
  rw[List.length_drop] at hi
  rw[List.getElem_drop]
  have h1:=hp.hi (k+i) (by omega) (by omega)
  refine aup _ _ ?_
  have h2:aaj (l[k+i]).1 x.1≠0:=fun e=>hno (k+i) (by omega) (amg _ _ e)
  omega
 refine⟨hr.1,?_,?_⟩
 ·rw[List.pairwise_append]
  refine⟨by simp,hr.2.1,fun a ha b hb=> ?_⟩
  simp at ha
  subst ha
  exact hhi b hb
 ·intro a ha b hb
  rcases List.mem_append.1 hb with hb | hb
  ·simp at hb
   subst hb
   exact hlo a ha
  ·exact hr.2.2 a ha b hb
theorem a2x {l acc:List Ent}{x:Ent}{k:Nat}(h:l.Perm acc):(l.take k++[x]++l.drop k).Perm (acc++[x]):=by
 have h1:(l.take k++[x]++l.drop k).Perm (l.take k++l.drop k++[x]):=by
  rw[List.append_assoc,List.append_assoc]
  exact(List.perm_append_left_iff _).2 List.perm_append_comm
 rw[List.take_append_drop] at h1
 exact h1.trans (h.append_right _)
theorem a0q {l acc:List Ent}(h:l.Perm acc)(p:List Int):(∃i,∃hi:i<l.length,(l[i]).1=p)↔akf acc p=true:=by
 unfold akf
 rw[List.any_eq_true]
 constructor
 ·rintro⟨i,hi,e⟩
  exact⟨l[i],h.mem_iff.1 (List.getElem_mem hi),by simp[e]⟩
 ·rintro⟨x,hx,e⟩
  obtain⟨i,hi,e2⟩:=List.mem_iff_getElem.1 (h.mem_iff.2 hx)
  exact⟨i,hi,by rw[e2];simpa using e⟩
theorem awe {C:List (List UInt8)}{j:Nat}(hj:j<C.length){n:Int}{acc:List Ent}(h:aav C[j]=true):aey (C.drop j) n acc=aey (C.drop (j+1)) (n+1) acc:=by
 rw[List.drop_eq_getElem_cons hj,aey,if_pos h]
theorem a2i {C:List (List UInt8)}{j:Nat}(hj:j<C.length){n:Int}{acc:List Ent}(h:aav C[j]=false)(hm:aee C[j]=none):aey (C.drop j) n acc=.error (60,n+1):=by
 rw[List.drop_eq_getElem_cons hj,aey,if_neg (by simp[h]),hm]
theorem awd {C:List (List UInt8)}{j:Nat}(hj:j<C.length){n:Int}{x:Ent}{acc:List Ent}(h:aav C[j]=false)(hm:aee C[j]=some x)(hw: ¬x.2.all aah=true):aey (C.drop j) n acc=.error (62,n+1):=by
 rw[List.drop_eq_getElem_cons hj,aey,if_neg (by simp[h]),hm]
 simp only
 rw[if_neg hw]
theorem ayp {C:List (List UInt8)}{j:Nat}(hj:j<C.length){n:Int}{x:Ent}{acc:List Ent}(h:aav C[j]=false)(hm:aee C[j]=some x)(hw:x.2.all aah=true)(ha:akf acc x.1=true):aey (C.drop j) n acc=.error (61,n+1):=by
 rw[List.drop_eq_getElem_cons hj,aey,if_neg (by simp[h]),hm]
 simp only
 rw[if_pos hw,if_pos ha]
theorem a2k {C:List (List UInt8)}{j:Nat}(hj:j<C.length){n:Int}{x:Ent}{acc:List Ent}(h:aav C[j]=false)(hm:aee C[j]=some x)(hw:x.2.all aah=true)(ha:akf acc x.1=false)(hl:4096≤acc.length):aey (C.drop j) n acc=.error (2,n+1):=by
 rw[List.drop_eq_getElem_cons hj,aey,if_neg (by simp[h]),hm]
 simp only
 rw[if_pos hw,if_neg (by simp[ha]),if_pos hl]
theorem a2j {C:List (List UInt8)}{j:Nat}(hj:j<C.length){n:Int}{x:Ent}{acc:List Ent}(h:aav C[j]=false)(hm:aee C[j]=some x)(hw:x.2.all aah=true)(ha:akf acc x.1=false)(hl:acc.length<4096):aey (C.drop j) n acc=aey (C.drop (j+1)) (n+1) (acc++[x]):=by
 rw[List.drop_eq_getElem_cons hj,aey,if_neg (by simp[h]),hm]
 simp only
 rw[if_pos hw,if_neg (by simp[ha]),if_neg (by omega)]
theorem a5z {C:List (List UInt8)}{j:Nat}(hj:C.length≤j){n:Int}{acc:List Ent}:aey (C.drop j) n acc=.ok acc:=by
 rw[List.drop_of_length_le hj,aey]
theorem a07 {l:List UInt8}{x:Ent}(h:aee l=some x):x.1.length≤8∧x.2.length≤16:=by
 obtain⟨h1,h2⟩:=an6 h
 exact⟨(aqe (ajp h1).2.2).2,(elsR_len h2).2⟩
theorem a6h:(Tryz.prog.info? 160).map (fun i=>(i.zero,i.size,i.bytes))=some (some (.agg #[.slice none 0 0,.slice none 0 0]),2,48):=by kernel_rfl
abbrev EV:=Ent×Value×Value
def ab1 (ps:List EV):List Value:=ps.flatMap fun x=>[x.2.1,x.2.2]
theorem ag9 (a b:List EV):ab1 (a++b)=ab1 a++ab1 b:=by simp[ab1]
theorem al1 (ps:List EV):(ab1 ps).length=ps.length*2:=by
 induction ps with
 | nil=>rfl
 | cons x r ih=>rw[show ab1 (x::r)=[x.2.1,x.2.2]++ab1 r from rfl,List.length_append,ih];simp;omega
theorem a4f: ∀(ps:List EV) (j:Nat) (hj:j<ps.length),(ab1 ps)[j*2]? =some (ps[j]).2.1∧(ab1 ps)[j*2+1]? =some (ps[j]).2.2:=by
 intro ps
 induction ps with
 | nil=>intro j hj;simp at hj
 | cons x r ih=>
  intro j hj
  cases j with
  | zero=>exact⟨rfl,rfl⟩
  | succ j=>
   have h:=ih j (by simpa using hj)
   rw[show ab1 (x::r)=[x.2.1,x.2.2]++ab1 r from rfl]
   rw[List.getElem?_append_right (by simp;omega),List.getElem?_append_right (by simp;omega)]
   simp only[List.length_cons,List.length_nil,List.getElem_cons_succ]
   rw[show (j+1)*2-(0+1+1)=j*2 by omega,show(j+1)*2+1-(0+1+1)=j*2+1 by omega]
   exact h
theorem abg {w:World}{ops:Array Oper}{rest:List Oper}{o:Oper}{a:Act}{Q:Exit→Act→World→Prop}(hgd:o.guard=none)(s x:Operand)
  (ho:o.op=.call {callee:=.builtin .append,args:= #[s,x],argTypes:= #[63,63]})
  (base:Nat) (v:Value) (n:Nat) (xs:List Value) (hs:a.eval s=v) (hown:w.ownsRow base 160 2 v n xs) (pa:Option Addr) (m pc:Nat) (news:List Value) (hx:a.eval x=.slice pa m pc) (hn:news.length=m*2)
  (hc:m≠0→ ∃ad,pa=some ad∧ ∀j u,news[j]? =some u→w.cell? (ad.add j)=some u) (h1: ∀u∈news,u.oneCell'=true) (hlen:n+m≤1048576) (hbase:base≤w.heap.size)
  (h: ∀a' c' w',w'.ownsRow base 160 2 (.slice a' (n+m) c') (n+m) (xs++news)→w.grownBy w' v.ownBlock→wpList Tryz.prog ops Q rest (a.put o.dst (.slice a' (n+m) c')) w'):
  wpList Tryz.prog ops Q (o::rest) a w:=by
 obtain⟨i,hi,hz,hsz,hby⟩:=info_parts a6h
 by_cases hm:m=0
 ·subst hm
  have hnil:news=[]:=List.eq_nil_of_length_eq_zero (by omega)
  subst hnil
  obtain⟨a',c',rfl⟩:=aax hown
  have hle:n≤c':=by
   by_cases h0:0<n
   ·obtain⟨_,_,e,h2,_⟩:=au3 hown h0
    cases e;exact h2
   ·omega
  have hr:(Builtin.append_ #[63,63] o.type #[.slice a' n c',.slice pa 0 pc]).run Tryz.prog w=.ok (.slice a' n c') w:=by
   cases pa with
   | none=>exact run_append_nothing (P:=Tryz.prog) w 63 63 o.type 160 i Tryz.underlying63 hi a' n c' hle _ (Src.ofNil w Tryz.underlying63 pc)
   | some ad=>exact run_append_nothing (P:=Tryz.prog) w 63 63 o.type 160 i Tryz.underlying63 hi a' n c' hle _ (Src.ofSlice w Tryz.underlying63 ad 0 pc [] (by simp) (by simp) (by simp))
  refine wpList_plain hgd fun K hK=> ?_
  unfold Oper.wp execOp
  simp only[ho,resolve,invoke,builtin,Sem.run_bind,Sem.run_pure,Result.andThen_ok,List.map_toArray,List.map_cons,List.map_nil,hs,hx,hr]
  have:=h a' c' w (by rw[List.append_nil];exact hown) (World.grownBy.refl _ _)
  exact hK _ _ this
 ·obtain⟨ad,rfl,hcell⟩:=hc hm
  refine wpList_append_own_at (P:=Tryz.prog) _ hgd s x 63 ho base 160 i _ 2 48 Tryz.underlying63 hi hz hsz hby rfl (by decide) v n xs hs hown ad m pc news hx hn hcell h1 ?_ ?_ ?_ ?_
  ·unfold maxLen;omega
  ·omega
  ·omega
  ·intro v' w' h1 h2 _ h4
   obtain⟨a',c',rfl⟩:=aax h1
   exact h a' c' w' h1 h2
def NOwn (w:World)(base:Nat)(v:Value)(l:List Ent):Prop:= ∃ps:List EV,w.ownsRow base 160 2 v ps.length (ab1 ps)∧(∀x∈ps,IOwn w base x.2.1 x.1.1∧EOwn w base x.2.2 x.1.2)∧ps.map Prod.fst=l
theorem NOwn.go {w w':World}{base:Nat}{v:Value}{l:List Ent}(h:NOwn w base v l)(hb:Below w.heap.size w w'):NOwn w' base v l:=by
 obtain⟨ps,h1,h2,h3⟩:=h
 exact⟨ps,aad h1 hb,fun x hx=>⟨aad (h2 x hx).1 hb,aad (h2 x hx).2 hb⟩,h3⟩
theorem NOwn.set {w:World}{base:Nat}{v:Value}{l:List Ent}(h:NOwn w base v l){p:Addr}(hp:p.block<base)(u:Value):NOwn (w.setCell p u) base v l:=by
 obtain⟨ps,h1,h2,h3⟩:=h
 exact⟨ps,aam h1 hp u,fun x hx=>⟨aam (h2 x hx).1 hp u,aam (h2 x hx).2 hp u⟩,h3⟩
structure LE (w:World)(vl:Value)(C:List (List UInt8))(l:List Ent)(vm:Value)(ps:List EV)(wr:World):Prop where
 res:Blk wr w.heap.size 65 #[.slice none 0 0]
 box:Blk wr (w.heap.size+1) 65 #[vm]
 lines:SOwn wr w.heap.size vl C
 ents:wr.ownsRow w.heap.size 160 2 vm ps.length (ab1 ps)
 parts: ∀x∈ps,IOwn wr w.heap.size x.2.1 x.1.1∧EOwn wr w.heap.size x.2.2 x.1.2
 is:ps.map Prod.fst=l
 below:Below w.heap.size w wr
section
variable {w:World}{vl:Value}{C:List (List UInt8)}{l:List Ent}{vm:Value}{ps:List EV}{wr:World}
theorem LE.go (h:LE w vl C l vm ps wr){w':World}(hb:Below wr.heap.size wr w'):LE w vl C l vm ps w' where
 res:=h.res.below hb h.res.lt
 box:=h.box.below hb h.box.lt
 lines:=aad h.lines hb
 ents:=aad h.ents hb
 parts:=fun x hx=>⟨aad (h.parts x hx).1 hb,aad (h.parts x hx).2 hb⟩
 is:=h.is
 below:=h.below.trans (hb.mono h.below.size)
theorem a7q {W:World}{base:Nat}(h:W.ownsRow base 160 2 vm ps.length (ab1 ps))(hp: ∀x∈ps,IOwn W base x.2.1 x.1.1∧EOwn W base x.2.2 x.1.2)(hl:ps.map Prod.fst=l):NIn W.heap.size W vm l:=by
 have hll:l.length=ps.length:=by rw[←hl,List.length_map]
 rcases h.2 with ⟨rfl,h0⟩ | ⟨g,cap,cur,rfl,hb,hg,hc,hm,hs,htk⟩
 ·exact .inl ⟨_,_,rfl,List.eq_nil_of_length_eq_zero (by omega)⟩
 ·refine .inr ⟨g,0,cap,by rw[hll],(Array.getElem?_eq_some_iff.1 hg).1,fun j hj=> ?_⟩
  have hjp:j<ps.length:=by omega
  obtain⟨f1,f2⟩:=a4f ps j hjp
  have hall: ∀j u,(ab1 ps)[j]? =some u→W.cell? ⟨g,j,none⟩=some u:=fun j u hu=>by
   rw[←htk] at hu
   have hj:=(List.getElem?_eq_some_iff.1 hu).1
   rw[List.getElem?_take_of_lt (by rw[List.length_take] at hj;omega)] at hu
   simp only[World.cell?,hg]
   simpa using hu
  have he:l[j]=(ps[j]).1:=by subst hl;simp
  obtain⟨q1,q2⟩:=hp _ (List.getElem_mem hjp)
  refine⟨(ps[j]).2.1,(ps[j]).2.2,by rw[Nat.zero_add];exact hall _ _ f1,by rw[he];exact q1.ints,by rw[Nat.zero_add];exact hall _ _ f2,by rw[he];exact q2.els⟩
theorem LE.min (h:LE w vl C l vm ps wr):NIn wr.heap.size wr vm l:=a7q h.ents h.parts h.is
theorem ae2 {b1:Nat}{e1:TypeId}{s1 k1:Nat}{v1:Value}{x1:List Value}{g:Nat}{u v:Value}(hbk:Blk wr g 65 #[u])(ht:e1≠65)(h1:wr.ownsRow b1 e1 s1 v1 k1 x1):(wr.setCell ⟨g,0,none⟩ v).ownsRow b1 e1 s1 v1 k1 x1:=
 adj h1 (fun g' hg=>Below.heap_setCell wr ⟨g,0,none⟩ _ g' (by
  intro e
  have e':g'=g:=e
  subst e'
  obtain⟨_,c,f,q⟩:=aan h1 hg
  have:=q.symm.trans hbk
  simp only[Option.some.injEq,Obj.cells.injEq] at this
  exact ht this.2.1))
theorem LE.put (h:LE w vl C l vm ps wr){vm':Value}{ps':List EV}{l':List Ent}{b:Nat}(hr:wr.ownsRow b 160 2 vm' ps'.length (ab1 ps'))(hb:w.heap.size≤b)(hp: ∀x∈ps',IOwn wr w.heap.size x.2.1 x.1.1∧EOwn wr w.heap.size x.2.2 x.1.2)(hl:ps'.map Prod.fst=l'):
  LE w vl C l' vm' ps' (wr.setCell ⟨w.heap.size+1,0,none⟩ vm'):=by
 refine⟨(Below.heap_setCell wr ⟨w.heap.size+1,0,none⟩ _ w.heap.size (by show w.heap.size≠w.heap.size+1;omega)).trans h.res,?_,ae2 h.box (by decide) h.lines,aai (ae2 h.box (by decide) hr) hb,fun x hx=>⟨ae2 h.box (by decide) (hp x hx).1,ae2 h.box (by decide) (hp x hx).2⟩,hl,h.below.setCell (by show w.heap.size≤w.heap.size+1;omega) _⟩
 have:=h.box.set 0 vm'
 simpa using this
theorem LE.fin2 (h:LE w vl C l vm ps wr)(v:Value):NOwn (wr.setCell ⟨w.heap.size,0,none⟩ v) w.heap.size vm l:=
 ⟨ps,ae2 h.res (by decide) h.ents,fun x hx=>⟨ae2 h.res (by decide) (h.parts x hx).1,ae2 h.res (by decide) (h.parts x hx).2⟩,h.is⟩
end
theorem ard {w:World}{base:Nat}{ps:List EV}(h: ∀x∈ps,IOwn w base x.2.1 x.1.1∧EOwn w base x.2.2 x.1.2): ∀u∈ab1 ps,u.oneCell'=true:=fun u hu=>by
 obtain⟨x,hx,hu⟩:=List.mem_flatMap.1 hu
 obtain⟨a,c,e⟩:=(h x hx).1.val
 obtain⟨a2,c2,e2,_⟩:=(h x hx).2.cap
 simp only[List.mem_cons,List.not_mem_nil,or_false] at hu
 rcases hu with rfl | rfl
 ·rw[e];rfl
 ·rw[e2];rfl
theorem al2 {w:World}{base n mc g:Nat}{ps:List EV}(h:w.ownsRow base 160 2 (.slice (some ⟨g,0,none⟩) n mc) ps.length (ab1 ps))(k0:Nat)(hk:k0≤ps.length):
  (∀j u,(ab1 (ps.take k0))[j]? =some u→w.cell? ((⟨g,0,none⟩:Addr).add j)=some u)∧(∀j u,(ab1 (ps.drop k0))[j]? =some u→w.cell? ((⟨g,k0*2,none⟩:Addr).add j)=some u)∧base≤g∧g<w.heap.size∧ps.length≤mc:=by
 rcases h.2 with ⟨e0,hz0⟩ | ⟨g',cap,cur,e,hb,hg,hc,hm,hs,htk⟩
 ·cases e0
 ·obtain⟨e1,_,rfl⟩:=Value.slice.inj e
  cases e1
  have hall: ∀j u,(ab1 ps)[j]? =some u→w.cell? ⟨g,j,none⟩=some u:=fun j u hu=>by
   rw[←htk] at hu
   have hj:=(List.getElem?_eq_some_iff.1 hu).1
   rw[List.getElem?_take_of_lt (by rw[List.length_take] at hj;omega)] at hu
   simp only[World.cell?,hg]
   simpa using hu
  have hsp:ab1 ps=ab1 (ps.take k0)++ab1 (ps.drop k0):=by rw[←ag9,List.take_append_drop]
  have hlt:(ab1 (ps.take k0)).length=k0*2:=by rw[al1,List.length_take];omega
  refine⟨fun j u hu=> ?_,fun j u hu=> ?_,hb,(Array.getElem?_eq_some_iff.1 hg).1,hc⟩
  ·rw[Go.WideShapes.add_plain,Nat.zero_add]
   refine hall j u ?_
   rw[hsp,List.getElem?_append_left (List.getElem?_eq_some_iff.1 hu).1]
   exact hu
  ·rw[show (⟨g,k0*2,none⟩:Addr).add j=⟨g,k0*2+j,none⟩ by simp[Addr.add]]
   refine hall (k0*2+j) u ?_
   rw[hsp,List.getElem?_append_right (by omega),hlt,Nat.add_sub_cancel_left]
   exact hu
theorem abp {tmps:Array Value}{w:World}{h:Nat}{x a b:Value}(hb:Blk w h 65 #[x])(t2:tmps[2]?.getD undef=.pointer (some ⟨h,0,none⟩))(t3:tmps[3]?.getD undef=a)(t4:tmps[4]?.getD undef=b):
  (results Tryz.f53 tmps).run Tryz.prog w=.ok (.tuple #[.agg #[x],a,b]) w:=by
 have c0:w.cell? ⟨h,0,none⟩=some x:=hb.cell 0
 simp[results,Tryz.results53,go_sem,t2,t3,t4,c0]
end Go.Proofs.YtfhpgmlfgjfknaaGreatDoor
