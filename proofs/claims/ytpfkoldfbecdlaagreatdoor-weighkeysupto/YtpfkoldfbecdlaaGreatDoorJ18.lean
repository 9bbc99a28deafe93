/- Contracts and lemmas (nothing is claimed here). -/
import Derived.Test.YtpfkoldfbecdlaaGreatDoorJ17
import Derived.Test.YtpfkoldfbecdlaaGreatDoorRows
import Derived.Deep.Upon
import Derived.ProofKit
import Derived.OpenShut
import Derived.Deep.Slices
import Derived.SizedLaws
import Derived.Deep.CutRange
import Derived.Test.YtpfkoldfbecdlaaGreatDoorJ7
import Derived.Test.YtpfkoldfbecdlaaGreatDoorJ8
import Derived.Test.YtpfkoldfbecdlaaGreatDoorJ1
import Derived.Lib.Case
import Derived.Lib.ItoaNum
import Derived.Sort.Row
import Derived.Lib.AppendStr
import Derived.Test.YtpfkoldfbecdlaaGreatDoorJ2
namespace Go.Proofs.YtpfkoldfbecdlaaGreatDoor
open Go.RowKit Go.Vf Go.Maps
def ag2 (G:Int→List Int)(N:Nat)(p:Int):List Int:=if G p=[] then [] else (wh G N p).take 19
theorem lead_ne {G:Int→List Int}{p q:Int}(h:Lead G p q):G p≠ []:=by
 induction h with
 | one h=>intro e;rw[e] at h;simp at h
 | more h _ _=>intro e;rw[e] at h;simp at h
theorem ac2 {L:List Mk}{p:Int}(h:aad L p≠ []): ∃m∈L,m.point=p:=by
 cases hp:aad L p with
 | nil=>exact absurd hp h
 | cons a r=>
  obtain⟨m,hm,he,_⟩:=aek (L:=L) (p:=p) (q:=a) (by rw[hp];simp)
  exact⟨m,hm,he⟩
theorem hasAt_no {L:List Mk}(x:Int)(h:adj L x=false):aad L x=[]:=by
 unfold adj at h
 unfold aad
 cases hm:aa4 L x with
 | none=>rfl
 | some m=>rw[hm] at h;simp at h
theorem fill_all {L:List Mk}{S:TS}(hI:Inv (aad L) S [])(hmet: ∀x∈L.map Mk.point,S.met x≠0)(hno: ∀m∈L,¬Lead (aad L) m.point m.point):Topo (aad L) S.ord∧ ∀N,S.ord.length+1≤N→ ∀p,ad8 (adj L) (aad L) S.ord (fun _=>[]) p=ag2 (aad L) N p:=by
 have hno': ∀x,¬Lead (aad L) x x:=fun x h=>by
  obtain⟨m,hm,e⟩:=ac2 (lead_ne h)
  exact hno m hm (by rw[e];exact h)
 have ht:Topo (aad L) S.ord:=fun pre x post e y hy=>hI.topo pre x post e (hno' x) y hy
 refine⟨ht,fun N hN p=> ?_⟩
 rw[fill_ok ht hN (has:=adj L) hasAt_no S.ord [] (fun _=>[]) rfl (by simp) p]
 unfold ag2
 by_cases hG:aad L p=[]
 ·simp[hG]
 ·obtain⟨m,hm,e⟩:=ac2 hG
  have hp:p∈S.ord:=by
   have h1:=hmet p (List.mem_map.2 ⟨m,hm,e⟩)
   rcases hI.met_range p with h | ⟨h,_⟩ | ⟨h,_⟩
   ·exact absurd h h1
   ·rw[hI.shut] at h;simp at h
   ·exact h
  rw[if_pos ⟨hp,hG⟩,if_neg hG]
theorem adz {t:List UInt8}{L:List Mk}{E:Int→List Int}(h:aav t=.ok (L,E)):t.length≤65536∧aau (aa7 10 t) 0 []=.ok L∧(∀m∈L,¬Lead (aad L) m.point m.point)∧(∀m∈L,(E m.point).length≤18)∧
  ∃ord,Topo (aad L) ord∧(∀m∈L,m.point∈ord)∧ ∀N,ord.length+1≤N→ ∀p,E p=ag2 (aad L) N p:=by
 unfold aav at h
 split at h
 ·cases h
 ·rename_i hlen
  split at h
  ·cases h
  ·rename_i L' hl
   obtain⟨S,hS,hI,hmet⟩:=ae5 (abr (by omega) hl).2.2.2.2
   rw[hS] at h
   simp only at h
   split at h
   ·cases h
   ·rename_i hf
    split at h
    ·cases h
    ·rename_i hg
     simp only[Except.ok.injEq,Prod.mk.injEq] at h
     obtain⟨rfl,rfl⟩:=h
     have hord: ∀m∈L',m.point∈S.ord:=fun m hm=>by
      have h1:=hmet m.point (List.mem_map.2 ⟨m,hm,rfl⟩)
      rcases hI.met_range m.point with h | ⟨h,_⟩ | ⟨h,_⟩
      ·exact absurd h h1
      ·rw[hI.shut] at h;simp at h
      ·exact h
     have hno: ∀m∈L',¬Lead (aad L') m.point m.point:=fun m hm hl=>by
      have h1:=List.find?_eq_none.1 hf m hm
      have:=(hI.loop m.point).1.2 ⟨hord m hm,hl⟩
      rw[this] at h1
      simp at h1
     obtain⟨ht,he⟩:=fill_all hI hmet hno
     refine⟨by omega,hl,hno,fun m hm=> ?_,S.ord,ht,hord,he⟩
     have h1:=List.find?_eq_none.1 hg m hm
     simp at h1
     omega
theorem wh_from {G:Int→List Int}: ∀(k:Nat) (p z:Int),z∈wh G k p→z=p∨ ∃q,z∈G q:=by
 intro k
 induction k with
 | zero=>intro p z hz;simp[wh] at hz;exact .inl hz
 | succ k ih=>
  intro p z hz
  unfold wh at hz
  split at hz
  ·simp at hz;exact .inl hz
  ·obtain⟨y,hy,hz⟩:=List.mem_flatMap.1 hz
   rcases ih y z hz with rfl | h
   ·exact .inr ⟨p,hy⟩
   ·exact .inr h
theorem may_not_syl {z:Int}(h:mayB z=true):ab5 z=false:=by
 unfold mayB at h
 cases hs:ab5 z with
 | false=>rfl
 | true=>rw[hs] at h;simp at h
theorem ends_end {t:List UInt8}{L:List Mk}{E:Int→List Int}(h:aav t=.ok (L,E)){p z:Int}(hp:ab5 p=false)(hz:z∈aal E p):ab5 z=false∧aal E z=[z]:=by
 obtain⟨hlen,hl,hno,_,ord,ht,hord,he⟩:=adz h
 have hok:=(abr hlen hl).1
 have hEz: ∀z,aad L z=[]→aal E z=[z]:=fun z hG=>by
  unfold aal
  rw[if_pos (by rw[he _ (Nat.le_refl _)];unfold ag2;rw[if_pos hG])]
 by_cases hG:aad L p=[]
 ·rw[hEz p hG] at hz
  simp at hz
  subst hz
  exact⟨hp,hEz z hG⟩
 ·obtain⟨m,hm,e⟩:=ac2 hG
  have hEp:E p=(wh (aad L) (ord.length+1) p).take 19:=by rw[he _ (Nat.le_refl _)];unfold ag2;rw[if_neg hG]
  have hz2:z∈wh (aad L) (ord.length+1) p:=by
   unfold aal at hz
   split at hz
   ·rename_i e0
    rw[hEp,List.take_eq_nil_iff] at e0
    rcases e0 with e0 | e0
    ·omega
    ·exact absurd e0 (wh_ne _ _)
   ·rw[hEp] at hz;exact List.mem_of_mem_take hz
  have hpo:p∈ord:=by rw[←e];exact hord m hm
  obtain⟨pre,post,hs⟩:=List.append_of_mem hpo
  have hGz:=wh_ends ht (Nat.le_refl _) pre.length pre p post (Nat.le_refl _) hs z hz2
  refine⟨?_,hEz z hGz⟩
  rcases wh_from _ _ _ hz2 with rfl | ⟨q,hq⟩
  ·exact hp
  ·obtain⟨m',hm',_,hq'⟩:=aek hq
   exact may_not_syl ((hok m' hm').2.1 z hq')
theorem mayB_in {z:Int}(h:mayB z=true):InI z:=by
 unfold mayB at h
 simp only[Bool.and_eq_true,decide_eq_true_eq] at h
 unfold InI
 omega
theorem ends_in {t:List UInt8}{L:List Mk}{E:Int→List Int}(h:aav t=.ok (L,E)){p z:Int}(hz:z∈aal E p):(InI p→InI z):=by
 obtain⟨hlen,hl,hno,_,ord,ht,hord,he⟩:=adz h
 have hok:=(abr hlen hl).1
 have hEz: ∀z,aad L z=[]→aal E z=[z]:=fun z hG=>by
  unfold aal
  rw[if_pos (by rw[he _ (Nat.le_refl _)];unfold ag2;rw[if_pos hG])]
 by_cases hG:aad L p=[]
 ·rw[hEz p hG] at hz
  simp at hz
  subst hz
  exact id
 ·obtain⟨m,hm,e⟩:=ac2 hG
  have hEp:E p=(wh (aad L) (ord.length+1) p).take 19:=by rw[he _ (Nat.le_refl _)];unfold ag2;rw[if_neg hG]
  have hz2:z∈wh (aad L) (ord.length+1) p:=by
   unfold aal at hz
   split at hz
   ·rename_i e0
    rw[hEp,List.take_eq_nil_iff] at e0
    rcases e0 with e0 | e0
    ·omega
    ·exact absurd e0 (wh_ne _ _)
   ·rw[hEp] at hz;exact List.mem_of_mem_take hz
  rcases wh_from _ _ _ hz2 with rfl | ⟨q,hq⟩
  ·exact id
  ·obtain⟨m',hm',_,hq'⟩:=aek hq
   exact fun _=>mayB_in ((hok m' hm').2.1 z hq')
theorem parts_in {t:List UInt8}{L:List Mk}{E:Int→List Int}(h:aav t=.ok (L,E)){p z:Int}(hp:InI p)(hz:z∈aao E p):InI z:=by
 unfold aao at hz
 split at hz
 ·rename_i hs
  obtain⟨q,hq,hz⟩:=List.mem_flatMap.1 hz
  exact ends_in h hz ((afw hs).1 q hq)
 ·exact ends_in h hz hp
theorem class_in {L:List Mk}(hok: ∀m∈L,MkOk m)(p:Int):0≤aaa L p∧aaa L p≤254:=by
 unfold aaa
 cases hm:aa4 L p with
 | none=>simp
 | some m=>exact⟨(hok m (List.mem_of_find?_eq_some hm)).2.2.1,(hok m (List.mem_of_find?_eq_some hm)).2.2.2⟩
theorem afu {t:List UInt8}{L:List Mk}{E:Int→List Int}(h:aav t=.ok (L,E))(p:Int):0≤aaa L p∧aaa L p≤254:=by
 obtain⟨hlen,hl,_⟩:=adz h
 exact class_in (abr hlen hl).1 p
theorem flat_in {t:List UInt8}{L:List Mk}{E:Int→List Int}(h:aav t=.ok (L,E)){ps:List Int}(hps: ∀q∈ps,InI q): ∀q∈aa3 E ps,InI q:=fun q hq=>by
 obtain⟨p,hp,hq⟩:=List.mem_flatMap.1 hq
 exact parts_in h (hps p hp) hq
theorem flat_len {w:World}{bd:Nat}{L:List Mk}{E:Int→List Int}(h:DataAt w bd L E)(ps:List Int):(aa3 E ps).length≤57*ps.length∧ps.length≤(aa3 E ps).length:=by
 induction ps with
 | nil=>simp[aa3]
 | cons x r ih=>
  have:=h.plen x
  rw[show aa3 E (x::r)=aao E x++aa3 E r from rfl,List.length_append,List.length_cons]
  omega
structure Numb (w:World)(a:Option Addr)(k c:Nat)(zs:List Int):Prop where
 ints:Ints w.heap.size w (.slice a k c) zs
 len:k=zs.length
 int: ∀q∈zs,InI q
 few:zs.length≤1000000000
theorem Numb.below {w w':World}{a:Option Addr}{k c:Nat}{zs:List Int}(h:Numb w a k c zs)(hb:Below w.heap.size w w'):Numb w' a k c zs:=⟨(h.ints.below hb (Nat.le_refl _)).mono hb.size,h.len,h.int,h.few⟩
theorem IOwn.numb {w:World}{base:Nat}{a:Option Addr}{k c:Nat}{zs:List Int}(h:IOwn w base (.slice a k c) zs)(hI: ∀q∈zs,InI q)(hf:zs.length≤1000000000):Numb w a k c zs:=⟨h.ints,by
 obtain⟨av,cv,hv⟩:=h.val
 simpa using (Value.slice.inj hv).2.1,hI,hf⟩
theorem form_load {t:List UInt8}{L:List Mk}{E:Int→List Int}(h:aav t=.ok (L,E)){bd:Nat}{a:Option Addr}{k c:Nat}{ps:List Int}{w:World}(hd:DataAt w bd L E)(hn:Numb w a k c ps):
  Calls Tryz.prog 89 #[.pointer (some ⟨bd,0,none⟩),.slice a k c] w fun e w'=>FormPost L E w ps e w':=by
 have:=flat_len hd ps
 have h1:=hn.few
 have h2:=hn.len
 exact form_any bd L E a k c ps w hn.int (flat_in h hn.int) (fun p=>(afu h p).1) hd hn.ints hn.len (by omega) (by omega)
def Glob (w:World):Prop:= ∃m,w.cell? ⟨2,0,none⟩=some (.int .i64 m)
theorem Glob.below {w w':World}(h:Glob w)(hb:Below w.heap.size w w'):Glob w':=by
 obtain⟨m,hm⟩:=h
 exact⟨m,(hb.cell (p:=⟨2,0,none⟩) (World.block_lt_of_cell? w _ hm)).trans hm⟩
theorem load_glob (s:ByteArray)(w:World)(hg:Glob w)(hbig:s.size≤281474976710656):Calls Tryz.prog 17 #[.string s] w fun e w'=>LoadPost (aav s.data.toList) w e w':=by
 obtain⟨m,hm⟩:=hg
 exact load_any s m w hm hbig
end Go.Proofs.YtpfkoldfbecdlaaGreatDoor
namespace Go.Proofs.YtpfkoldfbecdlaaGreatDoor
open Go.ChangeShapes Go.WideShapes Go.ChangeAt Go.RowKit Go.Deep Go.Vf Go.Maps
theorem append_empty (w:World)(ty:TypeId)(ba:Option Addr)(n c:Nat)(hle:n≤c)(pa:Option Addr)(pc:Nat):(Builtin.append_ #[90,90] ty #[.slice ba n c,.slice pa 0 pc]).run Tryz.prog w=.ok (.slice ba n c) w:=by
 obtain⟨i,hi,hz,hsz,hby⟩:=info_parts info3
 cases pa with
 | none=>exact run_append_nothing (P:=Tryz.prog) w 90 90 ty 3 i Tryz.underlying90 hi ba n c hle _ (Src.ofNil w Tryz.underlying90 pc)
 | some ad=>exact run_append_nothing (P:=Tryz.prog) w 90 90 ty 3 i Tryz.underlying90 hi ba n c hle _ (Src.ofSlice w Tryz.underlying90 ad 0 pc [] (by simp) (by simp) (by simp))
theorem abl {w:World}{ops:Array Oper}{rest:List Oper}{o:Oper}{a:Act}{Q:Exit→Act→World→Prop}(hgd:o.guard=none)(s x:Operand)
  (ho:o.op=.call {callee:=.builtin .append,args:= #[s,x],argTypes:= #[90,90]})
  (base:Nat) (v:Value) (zs:List Int) (hs:a.eval s=v) (hown:IOwn w base v zs) (ys:List Int) (n₀:Nat) (vx:Value) (hx:a.eval x=vx) (hin:Ints n₀ w vx ys) (hlen:zs.length+ys.length≤1099511627776) (hbase:base≤w.heap.size)
  (h: ∀a' c' w',IOwn w' base (.slice a' (zs.length+ys.length) c') (zs++ys)→Below base w w'→w.grownBy w' v.ownBlock→((Value.slice a' (zs.length+ys.length) c').ownBlock=v.ownBlock∨(Value.slice a' (zs.length+ys.length) c').ownBlock=some w.heap.size)→wpList Tryz.prog ops Q rest (a.put o.dst (.slice a' (zs.length+ys.length) c')) w'):
  wpList Tryz.prog ops Q (o::rest) a w:=by
 by_cases hy:ys=[]
 ·subst hy
  obtain⟨pa,pc,rfl⟩: ∃pa pc,vx=.slice pa 0 pc:=by
   rcases hin with ⟨a,c,e,_⟩ | ⟨b,off,c,e,_⟩
   ·exact⟨a,c,e⟩
   ·exact⟨some ⟨b,off,none⟩,c,by simpa using e⟩
  obtain⟨ba,c,hv,hle⟩: ∃ba c,v=.slice ba zs.length c∧zs.length≤c:=by
   rcases hown.form with ⟨e,e2⟩ | ⟨g,cap,e,_,_,hc,_⟩
   ·subst e2;exact⟨none,0,e,Nat.le_refl _⟩
   ·exact⟨_,cap,e,hc⟩
  have hr:=append_empty w o.type ba zs.length c hle pa pc
  refine wpList_plain hgd fun K hK=> ?_
  unfold Oper.wp execOp
  simp only[ho,resolve,invoke,builtin,Sem.run_bind,Sem.run_pure,Result.andThen_ok,List.map_toArray,List.map_cons,List.map_nil,hs,hx,hv,hr]
  subst hv
  exact hK _ _ (h ba c w (by rw[List.append_nil];exact hown) (Below.refl _ _) ⟨rfl,rfl,rfl,Nat.le_refl _,fun _ _ _=>rfl⟩ (.inl rfl))
 ·obtain⟨b,off,hao,_,_,hcell⟩: ∃b off,(∃c,vx=.slice (some ⟨b,off,none⟩) ys.length c)∧True∧True∧ ∀j,j<ys.length→w.cell? ⟨b,off+j,none⟩=some (.int .i64 (ys[j]?.getD 0)):=by
   rcases hin with ⟨_,_,_,e⟩ | ⟨b,off,c,e,hb,hc⟩
   ·exact absurd e hy
   ·exact⟨b,off,⟨c,e⟩,trivial,trivial,hc⟩
  obtain⟨c,rfl⟩:=hao
  refine aaf hgd s x ho base v zs hs hown ys ⟨b,off,none⟩ c hx (fun j hj=>by rw[show (⟨b,off,none⟩:Addr).add j=⟨b,off+j,none⟩ by simp[Addr.add]];exact hcell j hj) hlen hbase ?_
  intro a' c' w' h1 h2 _ h4
  exact h a' c' w' h1 ((Below.refl _ w).grown h2 hbase (fun j hj=>(aah hown hj).1)) h2 h4
end Go.Proofs.YtpfkoldfbecdlaaGreatDoor
namespace Go.Proofs.YtpfkoldfbecdlaaGreatDoor
open Go.RowKit Go.Vf Go.Maps
structure Formed (L:List Mk)(E:Int→List Int)(ps X:List Int):Prop where
 form:acq L E ps X
 mem: ∀x∈X,x∈aa3 E ps
 len:X.length=(aa3 E ps).length
theorem FormPost.formed {L:List Mk}{E:Int→List Int}{w:World}{ps:List Int}{e:Ending}{w':World}(h:FormPost L E w ps e w'): ∃g k c X,e=.returned (.slice (some ⟨g,0,none⟩) k c)∧IOwn w' w.heap.size (.slice (some ⟨g,0,none⟩) k c) X∧Formed L E ps X∧Below w.heap.size w w':=by
 obtain⟨g,k,c,X,h1,h2,h3,⟨h4,h5⟩,h6⟩:=h
 exact⟨g,k,c,X,h1,h2,⟨h3,h4,h5⟩,h6⟩
theorem form_few {w:World}{bd:Nat}{L:List Mk}{E:Int→List Int}(h:DataAt w bd L E){ps X:List Int}(hf:Formed L E ps X)(n:Nat)(hp:ps.length≤n):X.length≤57*n:=by
 have:=(flat_len h ps).1
 rw[hf.len]
 omega
theorem formed_in {t:List UInt8}{L:List Mk}{E:Int→List Int}(h:aav t=.ok (L,E)){ps X:List Int}(hps: ∀q∈ps,InI q)(hf:Formed L E ps X): ∀q∈X,InI q:=fun q hq=>flat_in h hps q (hf.mem q hq)
end Go.Proofs.YtpfkoldfbecdlaaGreatDoor
namespace Go.Vf
def pick (cls:Int→Int)(l:List Int):Nat→List Int
 | 0=>[]
 | c+1=>pick cls l c++l.filter (fun x=>cls x==((c+1:Nat):Int))
theorem pick_mem {cls:Int→Int}{l:List Int}: ∀ {c:Nat} {x:Int},x∈pick cls l c↔x∈l∧1≤cls x∧cls x≤c:=by
 intro c
 induction c with
 | zero=>intro x;simp[pick];omega
 | succ c ih=>
  intro x
  rw[pick,List.mem_append,ih,List.mem_filter]
  simp only[beq_iff_eq]
  constructor
  ·rintro(⟨h1,h2,h3⟩ | ⟨h1,h2⟩)
   ·exact⟨h1,h2,by omega⟩
   ·exact⟨h1,by omega,by omega⟩
  ·rintro⟨h1,h2,h3⟩
   by_cases h:cls x≤c
   ·exact .inl ⟨h1,h2,h⟩
   ·exact .inr ⟨h1,by omega⟩
theorem pick_sorted {cls:Int→Int}{l:List Int}: ∀c,SortedK cls (pick cls l c):=by
 intro c
 induction c with
 | zero=>exact SortedK.nil
 | succ c ih=>
  refine SortedK.append ih ?_ (fun x hx y hy=> ?_)
  ·refine List.pairwise_of_forall_mem_list (fun x hx y hy=> ?_)
   have h1:=(List.mem_filter.1 hx).2
   have h2:=(List.mem_filter.1 hy).2
   simp only[beq_iff_eq] at h1 h2
   omega
  ·have h1:=(pick_mem.1 hx).2.2
   have h2:=(List.mem_filter.1 hy).2
   simp only[beq_iff_eq] at h2
   omega
theorem pick_filter {cls:Int→Int}{l:List Int}(k:Int): ∀c:Nat,(pick cls l c).filter (fun x=>cls x==k)=if 1≤k∧k≤c then l.filter (fun x=>cls x==k) else []:=by
 intro c
 induction c with
 | zero=>rw[if_neg (by omega)];rfl
 | succ c ih=>
  rw[pick,List.filter_append,ih,List.filter_filter]
  by_cases h1:k=((c+1:Nat):Int)
  ·rw[if_neg (by omega),if_pos (by omega),List.nil_append]
   refine List.filter_congr (fun x _=> ?_)
   rw[h1];simp
  ·have e:l.filter (fun x=>cls x==k&&cls x==((c+1:Nat):Int))=[]:=by
    rw[List.filter_eq_nil_iff]
    intro x _ h
    simp only[Bool.and_eq_true,beq_iff_eq] at h
    exact h1 (h.1.symm.trans h.2)
   rw[e,List.append_nil]
   by_cases h2:1≤k∧k≤c
   ·rw[if_pos h2,if_pos (by omega)]
   ·rw[if_neg h2,if_neg (by omega)]
theorem pick_alike {cls:Int→Int}{l:List Int}{c:Nat}(h: ∀x∈l,1≤cls x∧cls x≤c):AlikeK cls l (pick cls l c):=fun k=>by
 rw[pick_filter]
 by_cases hk:1≤k∧k≤c
 ·rw[if_pos hk]
 ·rw[if_neg hk,List.filter_eq_nil_iff]
  intro x hx e
  simp only[beq_iff_eq] at e
  exact hk (e▸h x hx)
theorem pick_perm {cls:Int→Int}{l:List Int}: ∀c:Nat,(pick cls l c).Perm (l.filter (fun x=>decide (1≤cls x∧cls x≤c))):=by
 intro c
 induction c with
 | zero=>
  rw[show l.filter (fun x=>decide (1≤cls x∧cls x≤((0:Nat):Int)))=[] by rw[List.filter_eq_nil_iff];intro x _ h;simp at h;omega]
  exact List.Perm.refl _
 | succ c ih=>
  rw[pick]
  refine(ih.append_right _).trans ?_
  clear ih
  induction l with
  | nil=>exact List.Perm.refl _
  | cons x t ih=>
   by_cases a:(1≤cls x∧cls x≤c)
   ·rw[List.filter_cons_of_pos (by simpa using a),List.filter_cons_of_neg (by simp;omega),List.filter_cons_of_pos (by simp;omega)]
    exact ih.cons x
   ·by_cases b:cls x=((c+1:Nat):Int)
    ·rw[List.filter_cons_of_neg (by simpa using a),List.filter_cons_of_pos (by simpa using b),List.filter_cons_of_pos (by simp;omega)]
     exact List.perm_middle.trans (ih.cons x)
    ·rw[List.filter_cons_of_neg (by simpa using a),List.filter_cons_of_neg (by simpa using b),List.filter_cons_of_neg (by simp;omega)]
     exact ih
theorem pick_len {cls:Int→Int}{l:List Int}{c:Nat}:(pick cls l c).length≤l.length:=by
 rw[(pick_perm c).length_eq]
 exact List.length_filter_le _ _
theorem pick_full {cls:Int→Int}{l:List Int}{c:Nat}(h:l.length≤(pick cls l c).length): ∀x∈l,1≤cls x∧cls x≤c:=by
 rw[(pick_perm c).length_eq] at h
 have he:l.filter (fun x=>decide (1≤cls x∧cls x≤c))=l:=List.filter_eq_self.2 (fun x hx=>by
  have:=List.length_filter_eq_length_iff.1 (Nat.le_antisymm (List.length_filter_le _ _) h) x hx
  exact this)
 intro x hx
 rw[←he] at hx
 simpa using (List.mem_filter.1 hx).2
end Go.Vf
namespace Go.Proofs.YtpfkoldfbecdlaaGreatDoor
open Go.RowKit Go.Vf Go.Maps
end Go.Proofs.YtpfkoldfbecdlaaGreatDoor
namespace Go.Vf
structure PM where
 point:Int
 cls:Int
 parts:List Int
end Go.Vf
namespace Go.Proofs.YtpfkoldfbecdlaaGreatDoor
open Go.RowKit Go.Vf Go.Maps
def MIn (n₀:Nat)(w:World)(v:Value)(l:List PM):Prop:=
 (∃a cap,v=.slice a 0 cap∧l=[])∨ ∃b off cap,v=.slice (some ⟨b,off,none⟩) l.length cap∧b<n₀∧ ∀j (hj:j<l.length),∃pa pk pc,w.cell? ⟨b,off+j*3,none⟩=some (.int .i64 l[j].point)∧w.cell? ⟨b,off+j*3+1,none⟩=some (.int .i64 l[j].cls)∧
  w.cell? ⟨b,off+j*3+2,none⟩=some (.slice pa pk pc)∧Ints n₀ w (.slice pa pk pc) l[j].parts
theorem MIn.val {n₀:Nat}{w:World}{v:Value}{l:List PM}(h:MIn n₀ w v l): ∃a cap,v=.slice a l.length cap:=by
 rcases h with ⟨a,cap,rfl,rfl⟩ | ⟨b,off,cap,rfl,_⟩
 ·exact⟨_,_,rfl⟩
 ·exact⟨_,_,rfl⟩
theorem MIn.below {n₀ n:Nat}{w w':World}{v:Value}{l:List PM}(h:MIn n₀ w v l)(hb:Below n w w')(hn:n₀≤n):MIn n₀ w' v l:=by
 rcases h with h | ⟨b,off,cap,e,hlt,hc⟩
 ·exact .inl h
 ·refine .inr ⟨b,off,cap,e,hlt,fun j hj=> ?_⟩
  obtain⟨pa,pk,pc,h1,h2,h3,h4⟩:=hc j hj
  exact⟨pa,pk,pc,(hb.cell (p:=⟨b,_,none⟩) (show b<n by omega)).trans h1,(hb.cell (p:=⟨b,_,none⟩) (show b<n by omega)).trans h2,(hb.cell (p:=⟨b,_,none⟩) (show b<n by omega)).trans h3,h4.below hb hn⟩
theorem MIn.at {n₀:Nat}{w:World}{a:Option Addr}{k cap:Nat}{l:List PM}(h:MIn n₀ w (.slice a k cap) l){j:Nat}(hj:j<l.length): ∃b off,a=some ⟨b,off,none⟩∧ ∃pa pk pc,w.cell? ⟨b,off+j*3,none⟩=some (.int .i64 l[j].point)∧w.cell? ⟨b,off+j*3+1,none⟩=some (.int .i64 l[j].cls)∧
  w.cell? ⟨b,off+j*3+2,none⟩=some (.slice pa pk pc)∧Ints n₀ w (.slice pa pk pc) l[j].parts:=by
 rcases h with ⟨a',cap',e,rfl⟩ | ⟨b,off,cap',e,hlt,hc⟩
 ·simp at hj
 ·simp only[Value.slice.injEq] at e
  exact⟨b,off,e.1,hc j hj⟩
end Go.Proofs.YtpfkoldfbecdlaaGreatDoor
namespace Go.Vf
def aap (L:List Mk):List PM:=((L.map Mk.point).mergeSort (fun x y=>decide (x≤y))).map fun p=>⟨p,aaa L p,aad L p⟩
end Go.Vf
namespace Go.Proofs.YtpfkoldfbecdlaaGreatDoor
open Go.RowKit Go.Vf Go.Maps Go.Sort Go.Shelf
theorem info36:(Tryz.prog.info? 120).map (fun i=>(i.zero,i.size,i.bytes))=some (some (.agg #[.int .i64 0,.int .i64 0,.slice none 0 0]),3,40):=by kernel_rfl
def ab6 (ps:List (PM×Value)):List Value:=ps.flatMap fun x=>[.int .i64 x.1.point,.int .i64 x.1.cls,x.2]
def MOwn (w:World)(base:Nat)(v:Value)(ps:List (PM×Value)):Prop:=w.ownsRow base 120 3 v ps.length (ab6 ps)∧ ∀x∈ps,IOwn w base x.2 x.1.parts
theorem flatM_at (ps:List (PM×Value)): ∀(j:Nat) (hj:j<ps.length),(ab6 ps)[j*3]? =some (.int .i64 ps[j].1.point)∧(ab6 ps)[j*3+1]? =some (.int .i64 ps[j].1.cls)∧(ab6 ps)[j*3+2]? =some ps[j].2:=by
 induction ps with
 | nil=>intro j hj;simp at hj
 | cons a r ih=>
  intro j hj
  have e:ab6 (a::r)=.int .i64 a.1.point:: .int .i64 a.1.cls::a.2::ab6 r:=by simp[ab6]
  rw[e]
  cases j with
  | zero=>simp
  | succ j=>
   have:=ih j (by simpa using hj)
   rw[show (j+1)*3=j*3+1+1+1 by omega]
   simpa using this
theorem MOwn.min {w:World}{base:Nat}{v:Value}{ps:List (PM×Value)}(h:MOwn w base v ps):MIn w.heap.size w v (ps.map Prod.fst):=by
 rcases h.1.2 with ⟨rfl,h0⟩ | ⟨g,cap,cur,rfl,_,hg,_,_,_,ht⟩
 ·exact .inl ⟨_,_,rfl,by rw[List.eq_nil_of_length_eq_zero h0];rfl⟩
 ·refine .inr ⟨g,0,cap,by simp,(Array.getElem?_eq_some_iff.1 hg).1,fun j hj=> ?_⟩
  have hj':j<ps.length:=by simpa using hj
  obtain⟨h1,h2,h3⟩:=flatM_at ps j hj'
  rw[←ht] at h1 h2 h3
  rw[List.getElem?_take_of_lt (by omega)] at h1 h2 h3
  have hi:=h.2 ps[j] (List.getElem_mem hj')
  obtain⟨pa,pc,hv⟩:=hi.val
  refine⟨pa,ps[j].1.parts.length,pc,?_,?_,?_,?_⟩
  ·simp only[World.cell?,hg,Nat.zero_add,List.getElem_map];simpa using h1
  ·simp only[World.cell?,hg,Nat.zero_add,List.getElem_map];simpa using h2
  ·simp only[World.cell?,hg,Nat.zero_add];rw[←hv];simpa using h3
  ·rw[←hv];simpa using hi.ints
end Go.Proofs.YtpfkoldfbecdlaaGreatDoor
namespace Go.Proofs.YtpfkoldfbecdlaaGreatDoor
open Go.RowKit Go.Vf Go.Maps Go.Sort
theorem adi (L:List Mk):(aap L).length=L.length:=by
 unfold aap
 rw[List.length_map,List.length_mergeSort,List.length_map]
end Go.Proofs.YtpfkoldfbecdlaaGreatDoor
namespace Go.Proofs.YtpfkoldfbecdlaaGreatDoor
open Go.RowKit Go.Vf Go.Maps
theorem pointR_pointS {u:Nat}(hu:u≤1114111)(hm:mayB (u:Int)=true):abc (aaj u)=some (u:Int):=by
 have hl6:(abp u).length≤6:=acr u 6 (by omega) (by omega)
 have hp:=upHex_pos u
 have hlt:=ads u _ (Nat.le_refl _)
 have hlen:(aaj u).length=(4-(abp u).length)+(abp u).length:=by rw[aay,ac8]
 unfold abc
 rw[if_pos,aay,agv]
 ·have hmod:u % 16^((4-(abp u).length)+(abp u).length)=u:=Nat.mod_eq_of_lt (Nat.lt_of_lt_of_le hlt (Nat.pow_le_pow_right (by omega) (by omega)))
  rw[hmod,Nat.zero_mul,Nat.zero_add]
  show(if mayB (u:Int)=true then _ else _)=_
  rw[if_pos hm]
 ·by_cases h4:(abp u).length≤4
  ·exact .inl (by omega)
  ·refine .inr ⟨by omega,by omega,?_⟩
   rw[aay]
   obtain⟨k,hk⟩: ∃k,(abp u).length=k+1:=⟨(abp u).length-1,by omega⟩
   have hge:16^k≤u:=Nat.not_lt.1 fun h=>by have:=acr u k h (by omega);omega
   rw[hk] at hlt
   rw[show (4-(abp u).length)+(abp u).length=k+1 by omega,afs]
   intro e
   have e2:=upDig_zero _ (Nat.mod_lt _ (by omega)) (Option.some.inj e)
   have h1:1≤u/16^k:=(Nat.le_div_iff_mul_le (Nat.pow_pos (by omega))).2 (by omega)
   have h2:u/16^k<16:=(Nat.div_lt_iff_lt_mul (Nat.pow_pos (by omega))).2 (by rw[Nat.pow_succ] at hlt;omega)
   omega
theorem afo {s:List UInt8}{p:Int}(h:abc s=some p): ∃u:Nat,p=(u:Int)∧u≤1114111∧mayB (u:Int)=true∧s=aaj u:=by
 unfold abc at h
 split at h
 ·rename_i hs
  split at h
  ·cases h
  ·rename_i n hn
   split at h
   ·rename_i hm
    have hpn:(n:Int)=p:=by simpa using h
    have hmn:n≤1114111:=by
     unfold mayB at hm
     simp at hm
     omega
    obtain⟨r,hr,hnr,hpad⟩:=pad_numB s 0 n hn
    have hrn:r=n:=by simpa using hnr.symm
    subst hrn
    refine⟨r,hpn.symm,hmn,hm,?_⟩
    have hl:=acr r s.length hr (by omega)
    rw[aay]
    suffices hE:(4-(abp r).length)+(abp r).length=s.length by rw[hE];exact hpad
    rcases hs with h4 | ⟨h5,h6,hh⟩
    ·omega
    ·obtain⟨k,hk⟩: ∃k,s.length=k+1:=⟨s.length-1,by omega⟩
     have hgt: ¬(abp r).length≤k:=fun hle=>by
      have hlt:=ads r k hle
      rw[hpad,hk,afs,Nat.div_eq_of_lt hlt] at hh
      exact hh rfl
     omega
   ·cases h
 ·cases h
theorem itoa_all:((List.range 255).all fun c=>(ach (Lib.itoa (c:Int))==some (c:Int))&&(Lib.itoa (c:Int)).all (fun b=> !(b==10)&& !(b==59)))=true:=by kernel_rfl
theorem classR_itoa {c:Nat}(hc:c≤254):ach (Lib.itoa (c:Int))=some (c:Int)∧ ∀b∈Lib.itoa (c:Int),b≠10∧b≠59:=by
 have:=List.all_eq_true.1 itoa_all c (List.mem_range.2 (by omega))
 simp only[Bool.and_eq_true,beq_iff_eq,List.all_eq_true,Bool.not_eq_true',beq_eq_false_iff_ne] at this
 exact⟨this.1,fun b hb=>this.2 b hb⟩
def itoaS (c:Nat):List UInt8:=if c<10 then [UInt8.ofNat (48+c)] else if c<100 then [UInt8.ofNat (48+c/10),UInt8.ofNat (48+c % 10)] else [UInt8.ofNat (48+c/100),UInt8.ofNat (48+c/10 % 10),UInt8.ofNat (48+c % 10)]
theorem itoaS_all:((List.range 255).all fun c=>Lib.itoa (c:Int)==itoaS c)=true:=by kernel_rfl
theorem itoa_eq {c:Nat}(hc:c≤254):Lib.itoa (c:Int)=itoaS c:=by
 have:=List.all_eq_true.1 itoaS_all c (List.mem_range.2 (by omega))
 simpa using this
theorem agx {c:UInt8}{d:Nat}(h:decV c=some d):d<10∧c=UInt8.ofNat (48+d)∧(d=0→c=48):=by
 unfold decV at h
 split at h
 ·rename_i hh
  simp only[Option.some.injEq] at h
  have hc:c=UInt8.ofNat (48+d):=by
   apply UInt8.toNat_inj.1
   rw[UInt8.toNat_ofNat']
   omega
  refine⟨by omega,hc,fun e=> ?_⟩
  subst e
  exact hc
 ·cases h
theorem itoa_classR {s:List UInt8}{k:Int}(h:ach s=some k): ∃c:Nat,k=(c:Int)∧c≤254∧s=Lib.itoa (c:Int):=by
 unfold ach at h
 split at h
 ·rename_i hs
  split at h
  ·cases h
  ·rename_i n hn
   split at h
   ·rename_i hle
    refine⟨n,by simpa using h.symm,hle,?_⟩
    rw[itoa_eq hle]
    rcases hs with rfl | ⟨h1,h2,h3⟩
    ·simp[acs,decV] at hn
     subst hn
     rfl
    ·match s,h1,h2,h3,hn with
     | [a],_,h2,_,hn=>
      simp only[acs] at hn
      cases ha:decV a with
      | none=>rw[ha] at hn;cases hn
      | some d=>
       rw[ha] at hn
       obtain⟨q1,q2,_⟩:=agx ha
       have e:0*10+d=n:=by simpa using hn
       subst e
       unfold itoaS
       rw[if_pos (by omega),q2]
       simp
     | [a,b],_,h2,_,hn=>
      simp only[acs] at hn
      cases ha:decV a with
      | none=>rw[ha] at hn;cases hn
      | some d=>
       rw[ha] at hn
       simp only at hn
       cases hb:decV b with
       | none=>rw[hb] at hn;cases hn
       | some d2=>
        rw[hb] at hn
        obtain⟨q1,q2,q3⟩:=agx ha
        obtain⟨r1,r2,_⟩:=agx hb
        have e:(0*10+d)*10+d2=n:=by simpa using hn
        have hd:d≠0:=fun e0=>by rw[q3 e0] at h2;simp at h2
        subst e
        unfold itoaS
        rw[if_neg (by omega),if_pos (by omega),q2,r2,show((0*10+d)*10+d2)/10=d by omega,show((0*10+d)*10+d2) % 10=d2 by omega]
     | [a,b,c],_,h2,_,hn=>
      simp only[acs] at hn
      cases ha:decV a with
      | none=>rw[ha] at hn;cases hn
      | some d=>
       rw[ha] at hn
       simp only at hn
       cases hb:decV b with
       | none=>rw[hb] at hn;cases hn
       | some d2=>
        rw[hb] at hn
        simp only at hn
        cases hc:decV c with
        | none=>rw[hc] at hn;cases hn
        | some d3=>
         rw[hc] at hn
         obtain⟨q1,q2,q3⟩:=agx ha
         obtain⟨r1,r2,_⟩:=agx hb
         obtain⟨s1,s2,_⟩:=agx hc
         have e:((0*10+d)*10+d2)*10+d3=n:=by simpa using hn
         have hd:d≠0:=fun e0=>by rw[q3 e0] at h2;simp at h2
         subst e
         unfold itoaS
         rw[if_neg (by omega),if_neg (by omega),q2,r2,s2,show(((0*10+d)*10+d2)*10+d3)/100=d by omega,show(((0*10+d)*10+d2)*10+d3)/10 % 10=d2 by omega,show(((0*10+d)*10+d2)*10+d3) % 10=d3 by omega]
     | a::b::c::x::r,_,_,h3,_=>simp at h3
   ·cases h
 ·cases h
def pmOf (m:Mk):PM:=⟨m.point,m.cls,m.parts⟩
theorem markAt_of_mem {L:List Mk}{m:Mk}(hnd:(L.map Mk.point).Nodup)(hm:m∈L):aa4 L m.point=some m:=by
 unfold aa4
 induction L with
 | nil=>simp at hm
 | cons a r ih=>
  rw[List.map_cons,List.nodup_cons] at hnd
  rcases List.mem_cons.1 hm with rfl | hm
  ·simp
  ·rw[List.find?_cons_of_neg]
   ·exact ih hnd.2 hm
   ·simp only[beq_iff_eq]
    intro e
    exact hnd.1 (List.mem_map.2 ⟨m,hm,e.symm⟩)
theorem marksR_perm {L:List Mk}(hnd:(L.map Mk.point).Nodup):(aap L).Perm (L.map pmOf):=by
 unfold aap
 refine((List.mergeSort_perm (L.map Mk.point) _).map _).trans ?_
 rw[List.map_map]
 have this: ∀m∈L,((fun p=>(⟨p,aaa L p,aad L p⟩:PM)) ∘ Mk.point) m=pmOf m:=fun m hm=>by
  have hma:=markAt_of_mem hnd hm
  simp[aaa,aad,hma,pmOf]
 rw[List.map_congr_left this]
theorem sorted_strict: ∀ {l:List Int},l.Pairwise (fun a b=>decide (a≤b)=true)→l.Nodup→l.Pairwise (· < ·):=by
 intro l
 induction l with
 | nil=>intro _ _;simp
 | cons a r ih=>
  intro h1 h2
  rw[List.pairwise_cons] at h1⊢
  rw[List.nodup_cons] at h2
  refine⟨fun b hb=> ?_,ih h1.2 h2.2⟩
  have:=h1.1 b hb
  have hne:a≠b:=fun e=>h2.1 (e▸hb)
  simp at this
  omega
theorem marksR_points (L:List Mk):(aap L).map PM.point=(L.map Mk.point).mergeSort (fun x y=>decide (x≤y)):=by
 unfold aap
 rw[List.map_map]
 conv=>rhs;rw[←List.map_id ((L.map Mk.point).mergeSort _)]
 rfl
theorem ac3 {L:List Mk}(hnd:(L.map Mk.point).Nodup):((aap L).map PM.point).Pairwise (· < ·):=by
 rw[marksR_points]
 refine sorted_strict (List.pairwise_mergeSort (le:=fun x y=>decide (x≤y)) (fun a b c h1 h2=>by simp at h1 h2⊢;omega) (fun a b=>by simp;omega) _) ?_
 exact(List.mergeSort_perm _ _).nodup_iff.2 hnd
theorem markAt_mem {L:List Mk}(p:Int):(aa4 L p=none∧p∉L.map Mk.point)∨ ∃m∈L,m.point=p∧aa4 L p=some m:=by
 cases h:aa4 L p with
 | none=>
  refine .inl ⟨rfl,fun hp=> ?_⟩
  obtain⟨m,hm,e⟩:=List.mem_map.1 hp
  have:=List.find?_eq_none.1 h m hm
  simp[e] at this
 | some m=>exact .inr ⟨m,List.mem_of_find?_eq_some h,by simpa using List.find?_some h,rfl⟩
end Go.Proofs.YtpfkoldfbecdlaaGreatDoor
namespace Go.Proofs.YtpfkoldfbecdlaaGreatDoor
open Go.ChangeShapes Go.WideShapes Go.ChangeAt Go.RowKit Go.Deep Go.Vf
theorem list_three {α:Type}{l:List α}(h:l.length=3): ∃a b c,l=[a,b,c]:=by
 match l,h with
 | [a,b,c],_=>exact⟨a,b,c,rfl⟩
end Go.Proofs.YtpfkoldfbecdlaaGreatDoor
namespace Go.Proofs.YtpfkoldfbecdlaaGreatDoor
open Go.RowKit Go.Vf Go.Maps
theorem row_some {w:World}{base:Nat}{e:TypeId}{size:Nat}{v:Value}{n:Nat}{xs:List Value}(h:w.ownsRow base e size v n xs)(hn:0<n): ∃g cap,v=.slice (some ⟨g,0,none⟩) n cap∧n≤cap∧g<w.heap.size∧ ∀j u,xs[j]? =some u→w.cell? ⟨g,j,none⟩=some u:=by
 rcases h.2 with ⟨_,h0⟩ | ⟨g,cap,cur,hv,hb,hg,hc,hm,hs,ht⟩
 ·omega
 ·refine⟨g,cap,hv,hc,(Array.getElem?_eq_some_iff.1 hg).1,fun j u hu=> ?_⟩
  rw[←ht] at hu
  have hj:=(List.getElem?_eq_some_iff.1 hu).1
  rw[List.getElem?_take_of_lt (by rw[List.length_take] at hj;omega)] at hu
  simp only[World.cell?,hg]
  simpa using hu
theorem flatM_len (ps:List (PM×Value)):(ab6 ps).length=ps.length*3:=by
 induction ps with
 | nil=>rfl
 | cons a r ih=>simp[ab6] at ih⊢;omega
theorem ahb {w:World}{ops:Array Oper}{rest:List Oper}{o:Oper}{a:Act}{Q:Exit→Act→World→Prop}(hgd:o.guard=none)(s x:Operand)
  (ho:o.op=.call {callee:=.builtin .append,args:= #[s,x],argTypes:= #[26,26]})
  (base:Nat) (v:Value) (n:Nat) (xs:List Value) (hs:a.eval s=v) (hown:w.ownsRow base 120 3 v n xs) (p c:Int) (ua:Option Addr) (uk uc:Nat) (hx:a.eval x=.slice (some ⟨w.heap.size,0,none⟩) 1 1)
  (hlen:n≤1099511627776) (hbase:base≤w.heap.size)
  (h: ∀a' c' w',w'.ownsRow base 120 3 (.slice a' (n+1) c') (n+1) (xs++[.int .i64 p,.int .i64 c,.slice ua uk uc])→(w.alloc (.cells #[.int .i64 p,.int .i64 c,.slice ua uk uc] 120)).grownBy w' v.ownBlock→((Value.slice a' (n+1) c').ownBlock=v.ownBlock∨(Value.slice a' (n+1) c').ownBlock=some (w.alloc (.cells #[.int .i64 p,.int .i64 c,.slice ua uk uc] 120)).heap.size)→wpList Tryz.prog ops Q rest (a.put o.dst (.slice a' (n+1) c')) w'):
  wpList Tryz.prog ops Q (o::rest) a (w.alloc (.cells #[.int .i64 p,.int .i64 c,.slice ua uk uc] 120)):=by
 obtain⟨i,hi,hz,hsz,hby⟩:=info_parts info36
 have hb:=Blk.new w 120 #[.int .i64 p,.int .i64 c,.slice ua uk uc]
 refine wpList_append_own_at (P:=Tryz.prog) _ hgd s x 26 ho base 120 i _ 3 40 Tryz.underlying26 hi hz hsz hby rfl (by decide) v n xs hs (World.ownsRow.alloc hown _) ⟨w.heap.size,0,none⟩ 1 1 [.int .i64 p,.int .i64 c,.slice ua uk uc] hx (by rfl) ?_ ?_ ?_ ?_ ?_ ?_
 ·intro j u hu
  match j,hu with
  | 0,hu=>simp at hu;subst hu;exact hb.cell 0
  | 1,hu=>simp at hu;subst hu;exact hb.cell 1
  | 2,hu=>simp at hu;subst hu;exact hb.cell 2
 ·intro u hu;simp at hu;rcases hu with rfl | rfl | rfl<;>rfl
 ·unfold maxLen;omega
 ·omega
 ·simp;omega
 ·intro v' w' h1 h2 _ h4
  obtain⟨a',c',rfl⟩:=aba h1
  exact h a' c' w' h1 h2 h4
end Go.Proofs.YtpfkoldfbecdlaaGreatDoor
namespace Go.Proofs.YtpfkoldfbecdlaaGreatDoor
open Go.RowKit Go.Vf
def strLen:Value→Nat
 | .string b=>b.size
 | _=>0
theorem signs_at: ∀d,d<16→(⟨#[48,49,50,51,52,53,54,55,56,57,65,66,67,68,69,70]⟩:ByteArray).extract d (d+1)=bsz [acy d]:=by decide
theorem padHex_cons: ∀(k n:Nat),aa8 (k+1) n=acy (n/16^k % 16)::aa8 k n:=by
 intro k
 induction k with
 | zero=>intro n;simp[aa8]
 | succ k ih=>
  intro n
  rw[aa8,ih,Nat.div_div_eq_div_mul,Nat.pow_succ,Nat.mul_comm 16]
  rfl
theorem bsz_append (a b:List UInt8):bsz a++bsz b=bsz (a++b):=by
 apply ByteArray.ext
 simp
theorem ab8 (l:List UInt8):(bsz l).size=l.length:=by simp[ByteArray.size]
theorem pointS_of {u j:Nat}(h4:4≤j)(h0:u/16^j=0)(hj:j≤4∨16^(j-1)≤u):aa8 j u=aaj u:=by
 have hp:0<16^j:=Nat.pow_pos (by omega)
 have hlt:u<16^j:=by
  rcases Nat.lt_or_ge u (16^j) with h | h
  ·exact h
  ·have:=(Nat.le_div_iff_mul_le hp).2 (by omega:1*16^j≤u);omega
 have h1:=acr u j hlt (by omega)
 rw[aay]
 congr 1
 rcases hj with hj | hj
 ·omega
 ·by_cases h5:j=4
  ·omega
  ·have: ¬(abp u).length≤j-1:=fun h=>by have:=ads u _ h;omega
   omega
theorem digits_step {u n:Nat}{sb:ByteArray}(hu:u<16^6)(h:sb=bsz (aa8 sb.size u)∧n=u/16^sb.size∧(sb.size≤4∨16^(sb.size-1)≤u))(hc:sb.size<4∨0<n):
  (bsz [acy (n % 16)]++sb).size=sb.size+1∧sb.size+1≤6∧((bsz [acy (n % 16)]++sb)=bsz (aa8 (bsz [acy (n % 16)]++sb).size u)∧n/16=u/16^(bsz [acy (n % 16)]++sb).size∧((bsz [acy (n % 16)]++sb).size≤4∨16^((bsz [acy (n % 16)]++sb).size-1)≤u)):=by
 obtain⟨h1,h2,h3⟩:=h
 have hge:0<n→16^sb.size≤u:=fun h0=>by
  rcases Nat.lt_or_ge u (16^sb.size) with hl | hl
  ·rw[Nat.div_eq_of_lt hl] at h2;omega
  ·exact hl
 have e:bsz [acy (n % 16)]++sb=bsz (aa8 (sb.size+1) u):=by
  rw[padHex_cons,←h2]
  conv=>lhs;rw[h1]
  rw[bsz_append]
  rfl
 have es:(bsz [acy (n % 16)]++sb).size=sb.size+1:=by rw[e,ab8,ac8]
 rw[es]
 refine⟨rfl,?_,e,?_,?_⟩
 ·rcases hc with hc | hc
  ·omega
  ·have h5:=hge hc
   rcases Nat.lt_or_ge sb.size 6 with hl | hl
   ·omega
   ·have:=Nat.pow_le_pow_right (show 0<16 by omega) hl;omega
 ·rw[h2,Nat.div_div_eq_div_mul,Nat.pow_succ]
 ·rcases hc with hc | hc
  ·exact .inl (by omega)
  ·exact .inr (by rw[Nat.add_sub_cancel];exact hge hc)
set_option maxHeartbeats 1000000 in
theorem digits_any (u:Nat)(hu:u<16^6)(w:World):Calls Tryz.prog 121 #[.int .i64 (u:Int)] w fun e w'=>e=.returned (.string (bsz (aaj u)))∧w=w':=by
 have HU:Hid (u<16^6):=hu
 have hu':u<16777216:=hu
 clear hu
 go_enter Tryz.func121,Tryz.ntmps121
 go_wp2_with fail
 go_loopw [0,3] (fun x v wr=> ∃(n:Nat) (sb:ByteArray),x=.int .i64 (n:Int)∧v=.string sb∧sb.size≤6∧n<16777216∧Hid (sb=bsz (aa8 sb.size u)∧n=u/16^sb.size∧(sb.size≤4∨16^(sb.size-1)≤u))∧wr=w) (fun _ v _=>7-strLen v)
 case atStart=>exact⟨u,⟨#[]⟩,rfl,rfl,by decide,hu',⟨rfl,by simp[ByteArray.size],.inl (by decide)⟩,rfl⟩
 case round=>
  obtain⟨n,sb,rfl,rfl,hs6,hn,HS,rfl⟩:=hrel
  have hd:=signs_at (n % 16) (by omega)
  by_cases h4:sb.size<4
  ·go_wp2_with fail
   obtain⟨q1,q2,q3⟩:=digits_step HU.out HS.out (.inl h4)
   exact⟨⟨n/16,_,by simp,rfl,by omega,by omega,q3,trivial⟩,by simp only[strLen];omega⟩
  ·by_cases h0:n=0
   ·subst h0
    go_wp2_with fail
    go_ret
    have hS:=HS.out
    have e:bsz (aaj u)=sb:=by
     conv=>rhs;rw[hS.1]
     rw[pointS_of (by omega) hS.2.1.symm hS.2.2]
    exact⟨by rw[e];rfl,rfl⟩
   ·have h0':0<n:=by omega
    go_wp2_with fail
    obtain⟨q1,q2,q3⟩:=digits_step HU.out HS.out (.inr h0')
    exact⟨⟨n/16,_,by simp,rfl,by omega,by omega,q3,trivial⟩,by simp only[strLen];omega⟩
end Go.Proofs.YtpfkoldfbecdlaaGreatDoor
