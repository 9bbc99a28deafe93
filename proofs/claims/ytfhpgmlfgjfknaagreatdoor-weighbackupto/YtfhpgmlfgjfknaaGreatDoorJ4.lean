/- Contracts and lemmas (nothing is claimed here). -/
import Derived.Test.YtfhpgmlfgjfknaaGreatDoorJ3
import Derived.Deep.QuietTactic
import Derived.BigQuiet
namespace Go.Vf
inductive Lead (G:Int→List Int):Int→Int→Prop
 | one {p q:Int}:q∈G p→Lead G p q
 | more {p q r:Int}:q∈G p→Lead G q r→Lead G p r
def Lead0 (G:Int→List Int)(p q:Int):Prop:=p=q∨Lead G p q
section
variable {G:Int→List Int}
theorem Lead.trans {p q r:Int}(h:Lead G p q)(h2:Lead G q r):Lead G p r:=by
 induction h with
 | one h=>exact .more h h2
 | more h _ ih=>exact .more h (ih h2)
theorem Lead0.refl (p:Int):Lead0 G p p:=Or.inl rfl
theorem Lead0.trans {p q r:Int}(h:Lead0 G p q)(h2:Lead0 G q r):Lead0 G p r:=by
 rcases h with rfl | h
 ·exact h2
 ·rcases h2 with rfl | h2
  ·exact Or.inr h
  ·exact Or.inr (h.trans h2)
theorem Lead0.step {p q r:Int}(h:Lead0 G p q)(h2:r∈G q):Lead G p r:=by
 rcases h with rfl | h
 ·exact .one h2
 ·exact h.trans (.one h2)
theorem Lead0.ne {p q:Int}(h:Lead0 G p q)(hn:p≠q):Lead G p q:=by
 rcases h with rfl | h
 ·exact absurd rfl hn
 ·exact h
theorem Lead.closed {A:List Int}(hA: ∀x∈A,∀y∈G x,y∈A){p q:Int}(h:Lead G p q):p∈A→q∈A:=by
 induction h with
 | one h=>exact fun hp=>hA _ hp _ h
 | more h _ ih=>exact fun hp=>ih (hA _ hp _ h)
end
structure TS where
 met:Int→Int
 count:Int
 opn:List Int
 ord:List Int
 loops:Int→Int
def upd (f:Int→Int)(x v:Int):Int→Int:=fun y=>if y=x then v else f y
abbrev ab4:Int:=9223372036854775807
def aex (f:Int→Int)(l:List Int)(v:Int):Int→Int:=l.foldl (fun m p=>upd m p v) f
theorem ak2 (l:List Int)(v:Int): ∀(f:Int→Int) (y:Int),aex f l v y=if y∈l then v else f y:=by
 induction l with
 | nil=>intro f y;simp[aex]
 | cons a r ih=>
  intro f y
  show aex (upd f a v) r v y=_
  rw[ih]
  by_cases h:y∈r
  ·simp[h]
  ·by_cases h2:y=a
   ·subst h2;simp[upd]
   ·simp[h,h2,upd]
def ad8 (G:Int→List Int)(group:List Int):Bool:=decide (1<group.length)||(G (group.headD 0)).contains (group.headD 0)
def ac0 (G:Int→List Int)(S:TS)(frm:Nat):TS:=
 {met:=aex S.met (S.opn.drop frm) ab4
  count:=S.count
  opn:=S.opn.take frm
  ord:=S.ord++S.opn.drop frm
  loops:=if ad8 G (S.opn.drop frm) then aex S.loops (S.opn.drop frm) 1 else S.loops}
def ag5 (r:Int→TS→Option (TS×Int)):List Int→TS→Int→Option (TS×Int)
 | [],S,l=>some (S,l)
 | q::rest,S,l=>match r q S with
  | none=>none
  | some (S',c)=>ag5 r rest S' (min l c)
def acp (S:TS)(p:Int):TS:= {S with met:=upd S.met p (S.count+1),count:=S.count+1,opn:=S.opn++[p]}
def aj7 (G:Int→List Int):Nat→Int→TS→Option (TS×Int)
 | 0,_,_=>none
 | k+1,p,S=>
  if S.count<1000000 then
   match ag5 (fun q S=>if S.met q>0 then some (S,S.met q) else aj7 G k q S) (G p) (acp S p) (S.count+1) with
   | none=>none
   | some (S2,least)=>if least=S.count+1 then (if S.opn.length<S2.opn.length then some (ac0 G S2 S.opn.length,least) else none) else some (S2,least)
  else none
def ad4 (G:Int→List Int)(k:Nat)(q:Int)(S:TS):Option (TS×Int):=if S.met q>0 then some (S,S.met q) else aj7 G k q S
theorem ak0 (G:Int→List Int)(k:Nat)(p:Int)(S:TS):aj7 G (k+1) p S=
  if S.count<1000000 then
   match ag5 (ad4 G k) (G p) (acp S p) (S.count+1) with
   | none=>none
   | some (S2,least)=>if least=S.count+1 then (if S.opn.length<S2.opn.length then some (ac0 G S2 S.opn.length,least) else none) else some (S2,least)
  else none:=rfl
def ajl (G:Int→List Int)(k:Nat):List Int→TS→Option TS
 | [],S=>some S
 | p::r,S=>match ad4 G k p S with
  | none=>none
  | some (S',_)=>ajl G k r S'
def TS.empty:TS:=⟨fun _=>0,0,[],[],fun _=>0⟩
structure Inv (G:Int→List Int)(S:TS)(gray:List Int):Prop where
 nd:(S.opn++S.ord).Nodup
 zero: ∀x,S.met x=0↔x∉S.opn∧x∉S.ord
 setd: ∀x∈S.ord,S.met x=ab4
 opened: ∀x∈S.opn,1≤S.met x∧S.met x≤S.count
 rise:S.opn.Pairwise (fun a b=>S.met a<S.met b∧Lead0 G a b)
 cnt:0≤S.count∧S.count≤1000000
 gsub: ∀g∈gray,g∈S.opn
 up: ∀x∈S.opn,∃g∈gray,S.met g≤S.met x∧Lead0 G x g
 black: ∀x∈S.opn,x∉gray→ ∀y∈G x,S.met y≠0
 closed: ∀x∈S.ord,∀y∈G x,y∈S.ord
 loop: ∀x,(S.loops x=1↔x∈S.ord∧Lead G x x)∧(S.loops x=1∨S.loops x=0)
 topo: ∀pre x post,S.ord=pre++x::post→ ¬Lead G x x→ ∀y∈G x,y∈pre
theorem Inv.start (G:Int→List Int):Inv G TS.empty [] where
 nd:=by simp[TS.empty]
 zero:=by simp[TS.empty]
 setd:=by simp[TS.empty]
 opened:=by simp[TS.empty]
 rise:=by simp[TS.empty]
 cnt:=by simp[TS.empty]
 gsub:=by simp
 up:=by simp[TS.empty]
 black:=by simp[TS.empty]
 closed:=by simp[TS.empty]
 loop:=by simp[TS.empty]
 topo:=by simp[TS.empty]
structure Ext (G:Int→List Int)(S S':TS)(gray:List Int)(p r:Int):Prop where
 inv:Inv G S' gray
 ext: ∃e,S'.opn=S.opn++e∧(∀x∈e,S.count<S'.met x)∧ ∀x∈e,∀y∈G x,y∈S.opn→r≤S.met y
 keep: ∀x∈S.opn,S'.met x=S.met x
 ordx: ∃o,S'.ord=S.ord++o
 mets: ∀x,S.met x≠0→S'.met x≠0
 metp:S'.met p≠0
 rpos:1≤r
 low:r≤S.count→ ∃y∈S.opn,Lead0 G p y∧S.met y≤r
 edge:p∈S.opn→r≤S.met p
 cnt:S.count≤S'.count
structure Mid (G:Int→List Int)(S:TS)(gray:List Int)(p:Int)(Sj:TS)(l:Int)(done:List Int):Prop where
 inv:Inv G Sj (gray++[p])
 ext: ∃e,Sj.opn=S.opn++p::e∧(∀x∈e,S.count+1<Sj.met x)∧ ∀x∈e,∀y∈G x,y∈S.opn→l≤S.met y
 keep: ∀x∈S.opn,Sj.met x=S.met x
 kp:Sj.met p=S.count+1
 ordx: ∃o,Sj.ord=S.ord++o
 mets: ∀x,S.met x≠0→Sj.met x≠0
 did: ∀q∈done,Sj.met q≠0∧(q∈S.opn→l≤S.met q)
 lpos:1≤l∧l≤S.count+1
 low:l≤S.count→ ∃y∈S.opn,Lead0 G p y∧S.met y≤l
 cnt:S.count+1≤Sj.count
section
variable {G:Int→List Int}{S:TS}{gray:List Int}{p:Int}
theorem Inv.met_range (h:Inv G S gray)(x:Int):S.met x=0∨(x∈S.opn∧1≤S.met x∧S.met x≤S.count)∨(x∈S.ord∧S.met x=ab4):=by
 by_cases h1:x∈S.opn
 ·exact Or.inr (Or.inl ⟨h1,h.opened x h1⟩)
 ·by_cases h2:x∈S.ord
  ·exact Or.inr (Or.inr ⟨h2,h.setd x h2⟩)
  ·exact Or.inl ((h.zero x).2 ⟨h1,h2⟩)
theorem azq (h:Inv G S gray)(hp:S.met p=0)(hg: ∀g∈gray,Lead0 G g p)(hc:S.count<1000000):Mid G S gray p (acp S p) (S.count+1) []:=by
 obtain⟨hp1,hp2⟩:=(h.zero p).1 hp
 have hc0:=h.cnt
 have hmet: ∀x,(acp S p).met x=if x=p then S.count+1 else S.met x:=fun x=>rfl
 have hopn:(acp S p).opn=S.opn++[p]:=rfl
 have hord:(acp S p).ord=S.ord:=rfl
 have hne: ∀x∈S.opn,x≠p:=fun x hx e=>hp1 (e▸hx)
 have hne2: ∀x∈S.ord,x≠p:=fun x hx e=>hp2 (e▸hx)
 have hgp: ∀x∈S.opn,Lead0 G x p:=fun x hx=>by
  obtain⟨g,hg1,_,hg3⟩:=h.up x hx
  exact hg3.trans (hg g hg1)
 refine⟨⟨?_,?_,?_,?_,?_,?_,?_,?_,?_,?_,?_,?_⟩,⟨[],by simp[hopn],by simp,by simp⟩,?_,?_,⟨[],by simp[hord]⟩,?_,by simp,by omega,by omega,?_⟩
 ·rw[hopn,hord]
  have:=h.nd
  simp only[List.nodup_append,List.mem_append,List.mem_singleton,List.nodup_cons,List.not_mem_nil,not_false_eq_true,List.nodup_nil,and_self,true_and] at this⊢
  refine⟨⟨this.1,?_⟩,this.2.1,?_⟩
  ·intro a ha b hb;subst hb;exact hne a ha
  ·intro a ha b hb
   rcases ha with ha | rfl
   ·exact this.2.2 a ha b hb
   ·exact fun e=>hp2 (e▸hb)
 ·intro x
  rw[hmet,hopn,hord]
  by_cases hx:x=p
  ·subst hx;simp;omega
  ·simp[hx,h.zero x]
 ·intro x hx
  rw[hmet,if_neg (hne2 x hx)]
  exact h.setd x hx
 ·intro x hx
  rw[hopn] at hx
  show 1≤(acp S p).met x∧(acp S p).met x≤S.count+1
  rw[hmet]
  rcases List.mem_append.1 hx with hx | hx
  ·rw[if_neg (hne x hx)];have:=h.opened x hx;omega
  ·simp at hx;subst hx;simp;omega
 ·rw[hopn,List.pairwise_append]
  refine⟨?_,by simp,?_⟩
  ·refine(List.pairwise_iff_forall_sublist.2 fun {a b} hab=> ?_)
   have ha:a∈S.opn:=hab.subset (by simp)
   have hb:b∈S.opn:=hab.subset (by simp)
   rw[hmet,hmet,if_neg (hne a ha),if_neg (hne b hb)]
   exact List.pairwise_iff_forall_sublist.1 h.rise hab
  ·intro a ha b hb
   simp at hb;subst hb
   rw[hmet,hmet,if_neg (hne a ha),if_pos rfl]
   have:=h.opened a ha
   exact⟨by omega,hgp a ha⟩
 ·exact⟨by show 0≤S.count+1;omega,by show S.count+1≤1000000;omega⟩
 ·intro g hg'
  rw[hopn]
  rcases List.mem_append.1 hg' with h1 | h1
  ·exact List.mem_append_left _ (h.gsub g h1)
  ·exact List.mem_append_right _ h1
 ·intro x hx
  rw[hopn] at hx
  rcases List.mem_append.1 hx with hx | hx
  ·obtain⟨g,h1,h2,h3⟩:=h.up x hx
   refine⟨g,List.mem_append_left _ h1,?_,h3⟩
   rw[hmet,hmet,if_neg (hne x hx),if_neg (hne g (h.gsub g h1))]
   exact h2
  ·simp at hx;subst hx
   exact⟨x,by simp,Int.le_refl _,Lead0.refl _⟩
 ·intro x hx hxg y hy
  rw[hopn] at hx
  have hx1:x∈S.opn:=by
   rcases List.mem_append.1 hx with hx | hx
   ·exact hx
   ·exact absurd (List.mem_append_right _ hx) hxg
  have:=h.black x hx1 (fun e=>hxg (List.mem_append_left _ e)) y hy
  rw[hmet]
  split
  ·omega
  ·exact this
 ·exact h.closed
 ·exact h.loop
 ·exact h.topo
 ·intro x hx;rw[hmet,if_neg (hne x hx)]
 ·rw[hmet,if_pos rfl]
 ·intro x hx
  rw[hmet]
  split
  ·omega
  ·exact hx
 ·exact Int.le_refl _
theorem a3i {Sj S':TS}{l r q:Int}{done:List Int}(h:Mid G S gray p Sj l done)(hq:q∈G p)(hx:Ext G Sj S' (gray++[p]) q r):Mid G S gray p S' (min l r) (done++[q]):=by
 obtain⟨e,he,hm,hed⟩:=h.ext
 obtain⟨e2,he2,hm2,hed2⟩:=hx.ext
 obtain⟨o1,ho1⟩:=h.ordx
 obtain⟨o2,ho2⟩:=hx.ordx
 have hsub: ∀x∈S.opn,x∈Sj.opn:=fun x hx=>by rw[he];exact List.mem_append_left _ hx
 have hpj:p∈Sj.opn:=by rw[he];simp
 have keep': ∀x∈S.opn,S'.met x=S.met x:=fun x hx'=>by rw[hx.keep x (hsub x hx'),h.keep x hx']
 have hl:=h.lpos
 have hr:=hx.rpos
 have hcj:=h.cnt
 have hcx:=hx.cnt
 refine⟨hx.inv,⟨e++e2,by simp[he2,he],?_,?_⟩,keep',?_,⟨o1++o2,by simp[ho2,ho1]⟩,fun x hx'=>hx.mets x (h.mets x hx'),?_,by omega,?_,by omega⟩
 ·intro x hx'
  rcases List.mem_append.1 hx' with h1 | h1
  ·rw[hx.keep x (by rw[he];simp[h1])];exact hm x h1
  ·have:=hm2 x h1;omega
 ·intro x hx' y hy hyo
  rcases List.mem_append.1 hx' with h1 | h1
  ·have:=hed x h1 y hy hyo;omega
  ·have:=hed2 x h1 y hy (hsub y hyo)
   rw[h.keep y hyo] at this
   omega
 ·rw[hx.keep p hpj,h.kp]
 ·intro z hz
  rcases List.mem_append.1 hz with h1 | h1
  ·have:=h.did z h1
   exact⟨hx.mets z this.1,fun ho=>by have:=this.2 ho;omega⟩
  ·simp at h1;subst h1
   refine⟨hx.metp,fun ho=> ?_⟩
   have:=hx.edge (hsub z ho)
   rw[h.keep z ho] at this
   omega
 ·intro hlow
  by_cases hlr:l≤r
  ·rw[Int.min_eq_left hlr] at hlow⊢
   exact h.low hlow
  ·have hmin:min l r=r:=by omega
   rw[hmin] at hlow⊢
   obtain⟨y,hy,hlead,hyr⟩:=hx.low (by omega)
   rw[he] at hy
   have hyS:y∈S.opn:=by
    rcases List.mem_append.1 hy with h1 | h1
    ·exact h1
    ·rcases List.mem_cons.1 h1 with rfl | h1
     ·have:=h.kp;omega
     ·have:=hm y h1;omega
   refine⟨y,hyS,?_,?_⟩
   ·exact Lead0.trans (Or.inr (.one hq)) hlead
   ·rw[h.keep y hyS] at hyr;exact hyr
theorem a4g {Sj:TS}{l:Int}(h:Mid G S gray p Sj l (G p))(hS:Inv G S gray)(hp:S.met p=0)(hl:l≠S.count+1):Ext G S Sj gray p l:=by
 obtain⟨hp1,hp2⟩:=(hS.zero p).1 hp
 obtain⟨e,he,hm,hed⟩:=h.ext
 have hlp:=h.lpos
 obtain⟨y,hyo,hyl,hym⟩:=h.low (by omega)
 have hI:=h.inv
 have hsub: ∀x∈S.opn,x∈Sj.opn:=fun x hx=>by rw[he];exact List.mem_append_left _ hx
 have hyc:=hS.opened y hyo
 obtain⟨g,hg1,hg2,hg3⟩:=hS.up y hyo
 have hpg:Lead0 G p g:=hyl.trans hg3
 have hgc:=hS.opened g (hS.gsub g hg1)
 refine⟨⟨hI.nd,hI.zero,hI.setd,hI.opened,hI.rise,hI.cnt,?_,?_,?_,hI.closed,hI.loop,hI.topo⟩,⟨p::e,he,?_,?_⟩,h.keep,h.ordx,h.mets,?_,hlp.1,h.low,fun ho=>absurd ho hp1,by have:=h.cnt;omega⟩
 ·intro g' hg';exact hsub _ (hS.gsub g' hg')
 ·intro x hx
  obtain⟨g',h1,h2,h3⟩:=hI.up x hx
  rcases List.mem_append.1 h1 with h1 | h1
  ·exact⟨g',h1,h2,h3⟩
  ·simp at h1;subst h1
   refine⟨g,hg1,?_,h3.trans hpg⟩
   rw[h.kp] at h2
   rw[h.keep g (hS.gsub g hg1)]
   omega
 ·intro x hx hxg y' hy'
  by_cases hxp:x=p
  ·subst hxp;exact(h.did y' hy').1
  ·exact hI.black x hx (fun e'=>by
    rcases List.mem_append.1 e' with h1 | h1
    ·exact hxg h1
    ·simp at h1;exact hxp h1) y' hy'
 ·intro x hx
  rcases List.mem_cons.1 hx with rfl | hx
  ·have:=h.kp;omega
  ·have:=hm x hx;omega
 ·intro x hx y' hy' hyo'
  rcases List.mem_cons.1 hx with rfl | hx
  ·exact(h.did y' hy').2 hyo'
  ·exact hed x hx y' hy' hyo'
 ·have:=h.kp;omega
theorem axu {Sj:TS}{l:Int}(h:Mid G S gray p Sj l (G p))(hS:Inv G S gray)(hp:S.met p=0)(hl:l=S.count+1):Ext G S (ac0 G Sj S.opn.length) gray p l:=by
 obtain⟨hp1,hp2⟩:=(hS.zero p).1 hp
 obtain⟨e,he,hm,hed⟩:=h.ext
 have hI:=h.inv
 have hdrop:Sj.opn.drop S.opn.length=p::e:=by rw[he];simp
 have htake:Sj.opn.take S.opn.length=S.opn:=by rw[he];simp
 have hsub: ∀x∈S.opn,x∈Sj.opn:=fun x hx=>by rw[he];exact List.mem_append_left _ hx
 have hgrp: ∀x∈p::e,x∈Sj.opn:=fun x hx=>by rw[he];exact List.mem_append_right _ hx
 have hmet: ∀x,(ac0 G Sj S.opn.length).met x=if x∈p::e then ab4 else Sj.met x:=fun x=>by
  show aex Sj.met (Sj.opn.drop S.opn.length) ab4 x=_
  rw[ak2,hdrop]
 have hopn:(ac0 G Sj S.opn.length).opn=S.opn:=htake
 have hord:(ac0 G Sj S.opn.length).ord=Sj.ord++p::e:=by show Sj.ord++Sj.opn.drop S.opn.length=_;rw[hdrop]
 have hnd:=hI.nd
 rw[he] at hnd
 simp only[List.nodup_append,List.mem_append] at hnd
 obtain⟨⟨hn1,hn2,hn3⟩,hn4,hn5⟩:=hnd
 have hne: ∀x∈S.opn,x∉p::e:=fun x hx hx2=>hn3 x hx x hx2 rfl
 have hne2: ∀x∈Sj.ord,x∉p::e:=fun x hx hx2=>hn5 x (Or.inr hx2) x hx rfl
 have hdj: ∀x∈S.opn,x∉Sj.ord:=fun x hx hx2=>hn5 x (Or.inl hx) x hx2 rfl
 -- the group leads to the point, and the point to the group
 have hrise:=hI.rise
 rw[he,List.pairwise_append] at hrise
 have hfrom: ∀x∈e,Lead0 G p x:=fun x hx=>((List.pairwise_cons.1 hrise.2.1).1 x hx).2
 have hto: ∀x∈e,Lead0 G x p:=fun x hx=>by
  obtain⟨g,h1,_,h3⟩:=hI.up x (hgrp x (List.mem_cons_of_mem _ hx))
  rcases List.mem_append.1 h1 with h1 | h1
  ·exact h3.trans (hrise.2.2 g (hS.gsub g h1) p (by simp)).2
  ·simp at h1;subst h1;exact h3
 -- parts of the group are in it, or closed
 have hparts: ∀x∈p::e,∀y∈G x,y∈p::e∨y∈Sj.ord:=fun x hx y hy=>by
  have hyy:Sj.met y≠0∧(y∈S.opn→l≤S.met y):=by
   rcases List.mem_cons.1 hx with rfl | hx'
   ·exact h.did y hy
   ·refine⟨hI.black x (hgrp x hx) (fun e'=> ?_) y hy,hed x hx' y hy⟩
    rcases List.mem_append.1 e' with h1 | h1
    ·exact hne x (hS.gsub x h1) hx
    ·simp at h1;subst h1
     exact absurd hx' (List.nodup_cons.1 hn2).1
  rcases hI.met_range y with h1 | ⟨h1,_⟩ | ⟨h1,_⟩
  ·exact absurd h1 hyy.1
  ·rw[he] at h1
   rcases List.mem_append.1 h1 with h1 | h1
   ·have:=hyy.2 h1
    have:=hS.opened y h1
    omega
   ·exact Or.inl h1
  ·exact Or.inr h1
 have hloopG: ∀x∈p::e,ad8 G (p::e)=true↔Lead G x x:=fun x hx=>by
  constructor
  ·intro hlp
   by_cases hlen:1<(p::e).length
   ·have hxp:x=p∨x∈e:=List.mem_cons.1 hx
    obtain⟨z,hz,hzx⟩: ∃z∈p::e,z≠x:=by
     rcases hxp with rfl | hxe
     ·cases e with
      | nil=>simp at hlen
      | cons z r=>exact⟨z,by simp,fun e'=>by subst e';exact absurd (List.mem_cons_self) (List.nodup_cons.1 hn2).1⟩
     ·exact⟨p,by simp,fun e'=>by subst e';exact absurd hxe (List.nodup_cons.1 hn2).1⟩
    have toP: ∀y∈p::e,Lead0 G y p:=fun y hy=>by
     rcases List.mem_cons.1 hy with rfl | hy
     ·exact Lead0.refl _
     ·exact hto y hy
    have fromP: ∀y∈p::e,Lead0 G p y:=fun y hy=>by
     rcases List.mem_cons.1 hy with rfl | hy
     ·exact Lead0.refl _
     ·exact hfrom y hy
    have a1:Lead0 G x z:=(toP x hx).trans (fromP z hz)
    have a2:Lead0 G z x:=(toP z hz).trans (fromP x hx)
    exact(a1.ne (fun e'=>hzx e'.symm)).trans (a2.ne hzx)
   ·have:e=[]:=by
     cases e with
     | nil=>rfl
     | cons _ _=>simp at hlen
    subst this
    simp at hx;subst hx
    simp[ad8] at hlp
    exact .one hlp
  ·intro hlead
   by_cases hlen:1<(p::e).length
   ·simp only[ad8,hlen,decide_true,Bool.true_or]
   ·have:e=[]:=by
     cases e with
     | nil=>rfl
     | cons _ _=>simp at hlen
    subst this
    simp at hx;subst hx
    simp only[ad8,hlen,decide_false,Bool.false_or,List.headD_cons,List.contains_iff_mem]
    by_cases hself:x∈G x
    ·exact hself
    ·exfalso
     have key: ∀y∈G x,Lead0 G y x→False:=fun y hy hyx=>by
      rcases hparts x (by simp) y hy with h1 | h1
      ·simp at h1;subst h1;exact hself hy
      ·rcases hyx with rfl | hyx
       ·exact hself hy
       ·exact hne2 x (hyx.closed hI.closed h1) (by simp)
     cases hlead with
     | one hq=>exact hself hq
     | more hq hr=>exact key _ hq (Or.inr hr)
 have hmem: ∀x,x∈(ac0 G Sj S.opn.length).ord↔x∈Sj.ord∨x∈p::e:=fun x=>by rw[hord,List.mem_append]
 refine⟨⟨?_,?_,?_,?_,?_,hI.cnt,?_,?_,?_,?_,?_,?_⟩,⟨[],by rw[hopn];simp,by simp,by simp⟩,?_,?_,?_,?_,by have:=h.lpos;omega,h.low,fun ho=>absurd ho hp1,by have:=h.cnt;show S.count≤Sj.count;omega⟩
 ·rw[hopn,hord]
  simp only[List.nodup_append,List.mem_append]
  refine⟨hn1,⟨hn4,hn2,fun a ha b hb e'=>hne2 a ha (e'▸hb)⟩,?_⟩
  intro a ha b hb e'
  subst e'
  rcases hb with hb | hb
  ·exact hdj a ha hb
  ·exact hne a ha hb
 ·intro x
  rw[hmet,hopn,hmem]
  by_cases hx:x∈p::e
  ·rw[if_pos hx]
   refine⟨fun e'=>by simp[ab4] at e',fun e'=>absurd (Or.inr hx) e'.2⟩
  ·rw[if_neg hx,hI.zero x,he]
   simp only[List.mem_append,hx,or_false]
 ·intro x hx
  rw[hmet]
  split
  ·rfl
  ·rename_i hx2
   exact hI.setd x (((hmem x).1 hx).resolve_right hx2)
 ·intro x hx
  rw[hopn] at hx
  rw[hmet,if_neg (hne x hx)]
  exact hI.opened x (hsub x hx)
 ·rw[hopn]
  refine(List.pairwise_iff_forall_sublist.2 fun {a b} hab=> ?_)
  have ha:a∈S.opn:=hab.subset (by simp)
  have hb:b∈S.opn:=hab.subset (by simp)
  rw[hmet,hmet,if_neg (hne a ha),if_neg (hne b hb)]
  exact List.pairwise_iff_forall_sublist.1 hrise.1 hab
 ·intro g hg;rw[hopn];exact hS.gsub g hg
 ·intro x hx
  rw[hopn] at hx
  obtain⟨g,h1,h2,h3⟩:=hS.up x hx
  refine⟨g,h1,?_,h3⟩
  have hgo:=hS.gsub g h1
  rw[hmet,hmet,if_neg (hne x hx),if_neg (hne g hgo),h.keep x hx,h.keep g hgo]
  exact h2
 ·intro x hx hxg y hy
  rw[hopn] at hx
  have:=h.mets y (hS.black x hx hxg y hy)
  rw[hmet]
  split
  ·simp[ab4]
  ·exact this
 ·intro x hx y hy
  rw[hmem] at hx⊢
  rcases hx with hx | hx
  ·exact Or.inl (hI.closed x hx y hy)
  ·exact(hparts x hx y hy).symm
 ·intro x
  have hlo:(ac0 G Sj S.opn.length).loops x=if ad8 G (p::e)=true∧x∈p::e then 1 else Sj.loops x:=by
   show(if ad8 G (Sj.opn.drop S.opn.length) then aex Sj.loops (Sj.opn.drop S.opn.length) 1 else Sj.loops) x=_
   rw[hdrop]
   by_cases hb:ad8 G (p::e)=true
   ·rw[if_pos hb,ak2]
    by_cases hx:x∈p::e
    ·rw[if_pos hx,if_pos ⟨hb,hx⟩]
    ·rw[if_neg hx,if_neg (fun e'=>hx e'.2)]
   ·rw[if_neg hb,if_neg (fun e'=>hb e'.1)]
  have hold:=hI.loop x
  rw[hlo,hmem]
  by_cases hx:x∈p::e
  ·have hiff:=hloopG x hx
   by_cases hb:ad8 G (p::e)=true
   ·rw[if_pos ⟨hb,hx⟩]
    exact⟨⟨fun _=>⟨Or.inr hx,hiff.1 hb⟩,fun _=>rfl⟩,Or.inl rfl⟩
   ·rw[if_neg (fun e'=>hb e'.1)]
    refine⟨⟨fun h1=>absurd hx (hne2 x (hold.1.1 h1).1),fun h1=>absurd (hiff.2 h1.2) hb⟩,hold.2⟩
  ·rw[if_neg (fun e'=>hx e'.2)]
   refine⟨⟨fun h1=>⟨Or.inl (hold.1.1 h1).1,(hold.1.1 h1).2⟩,fun h1=>hold.1.2 ⟨h1.1.resolve_right hx,h1.2⟩⟩,hold.2⟩
 ·intro pre x post hsplit hnl y hy
  rw[hord] at hsplit
  by_cases hx:x∈p::e
  ·-- the group is the point alone
   have hb:ad8 G (p::e)≠true:=fun hb=>hnl ((hloopG x hx).1 hb)
   have hnil:e=[]:=by
    cases e with
    | nil=>rfl
    | cons a r=>exact absurd (by simp[ad8]) hb
   subst hnil
   simp at hx;subst hx
   have hpre:pre=Sj.ord:=by
    have hxo:x∉Sj.ord:=fun h1=>hne2 x h1 (by simp)
    have hpo:x∉pre:=fun h1=>by
     have hnd2:(Sj.ord++[x]).Nodup:=by
      simp only[List.nodup_append]
      refine⟨hn4,by simp,?_⟩
      intro a ha b hb' e'
      simp at hb'
      subst hb' e'
      exact hxo ha
     rw[hsplit] at hnd2
     simp only[List.nodup_append] at hnd2
     exact hnd2.2.2 x h1 x (by simp) rfl
    rcases List.append_eq_append_iff.1 hsplit with ⟨a',h1,h2⟩ | ⟨c',h1,h2⟩
    ·cases a' with
     | nil=>simpa using h1
     | cons z r=>
      simp only[List.cons_append,List.cons.injEq] at h2
      exact absurd (by rw[h1,←h2.1];simp) hpo
    ·cases c' with
     | nil=>simpa using h1.symm
     | cons z r=>
      simp only[List.cons_append,List.cons.injEq] at h2
      exact absurd (by rw[h1,←h2.1];simp) hxo
   rcases hparts x (by simp) y hy with h1 | h1
   ·simp at h1;subst h1
    exact absurd (.one hy) hnl
   ·rw[hpre];exact h1
  ·have hxo:x∈Sj.ord:=by
    have:x∈Sj.ord++p::e:=by rw[hsplit];simp
    exact(List.mem_append.1 this).resolve_right hx
   rcases List.append_eq_append_iff.1 hsplit with ⟨a',h1,h2⟩ | ⟨c',h1,h2⟩
   ·-- x would lie in the group
    exfalso
    cases a' with
    | nil=>
     simp only[List.nil_append] at h2
     exact hx (by rw[h2];simp)
    | cons z r=>
     exact hx (by rw[h2];simp)
   ·cases c' with
    | nil=>
     simp only[List.nil_append] at h2
     exact absurd (by rw[←h2];simp) hx
    | cons z r=>
     simp only[List.cons_append,List.cons.injEq] at h2
     refine hI.topo pre x r (by rw[h1,h2.1]) hnl y hy
 ·intro x hx
  rw[hmet,if_neg (hne x hx)]
  exact h.keep x hx
 ·obtain⟨o,ho⟩:=h.ordx
  exact⟨o++p::e,by rw[hord,ho];simp⟩
 ·intro x hx
  have:=h.mets x hx
  rw[hmet]
  split
  ·simp[ab4]
  ·exact this
 ·rw[hmet,if_pos (by simp)]
  simp[ab4]
def afc (U:List Int)(S:TS):Nat:=(U.filter (fun x=>S.met x==0)).length
theorem ahg {U:List Int}{S S':TS}(h: ∀x,S.met x≠0→S'.met x≠0):afc U S'≤afc U S:=by
 unfold afc
 induction U with
 | nil=>simp
 | cons a r ih=>
  have:=h a
  by_cases h1:S.met a=0
  ·by_cases h2:S'.met a=0
   ·simp[h1,h2];exact ih
   ·simp[h1,h2];omega
  ·have h2:=this h1
   simp[h1,h2];exact ih
theorem ak5 {U:List Int}{S:TS}{p:Int}(hp:S.met p=0)(hU:p∈U)(hc:0≤S.count):afc U (acp S p)+1≤afc U S:=by
 unfold afc
 have hmono: ∀l:List Int,(l.filter (fun x=>(acp S p).met x==0)).length≤(l.filter (fun x=>S.met x==0)).length:=fun l=>
  ahg (U:=l) (S:=S) (S':=acp S p) (fun x hx=>by
   show(if x=p then S.count+1 else S.met x)≠0
   split
   ·omega
   ·exact hx)
 induction U with
 | nil=>simp at hU
 | cons a r ih=>
  by_cases h1:a=p
  ·subst h1
   have e1:(acp S a).met a=S.count+1:=by simp[acp,upd]
   have:=hmono r
   have e2:((acp S a).met a==0)=false:=by rw[e1];simp;omega
   simp[e2,hp]
   omega
  ·have hr:=ih ((List.mem_cons.1 hU).resolve_left (fun e=>h1 e.symm))
   have e1:(acp S p).met a=S.met a:=by simp[acp,upd,h1]
   by_cases h2:S.met a=0
   ·simp[e1,h2];omega
   ·simp[e1,h2];omega
theorem a04 (h:Inv G S gray){q:Int}(hq:S.met q>0):Ext G S S gray q (S.met q):=by
 refine⟨h,⟨[],by simp,by simp,by simp⟩,fun _ _=>rfl,⟨[],by simp⟩,fun _ h=>h,by omega,by omega,?_,fun _=>Int.le_refl _,Int.le_refl _⟩
 intro hlow
 have:=h.cnt
 rcases h.met_range q with h1 | ⟨h1,_⟩ | ⟨_,h1⟩
 ·omega
 ·exact⟨q,h1,Lead0.refl _,Int.le_refl _⟩
 ·simp only[ab4] at h1;omega
variable {U:List Int}{N:Nat}
theorem a2y {k:Nat}(hU: ∀x∈U,∀y∈G x,y∈U)
  (ih: ∀(q:Int) (S:TS) (gray:List Int),Inv G S gray→S.met q=0→q∈U→(∀g∈gray,Lead0 G g q)→afc U S≤k→S.count+afc U S≤N→ ∃S' r,aj7 G k q S=some (S',r)∧Ext G S S' gray q r∧S'.count+afc U S'≤N)
  {S:TS} {gray:List Int} {p:Int} (hg: ∀g∈gray,Lead0 G g p) (hpU:p∈U):
  ∀(rest done:List Int) (Sj:TS) (l:Int),G p=done++rest→Mid G S gray p Sj l done→afc U Sj≤k→Sj.count+afc U Sj≤N→
   ∃S' l',ag5 (ad4 G k) rest Sj l=some (S',l')∧Mid G S gray p S' l' (G p)∧S'.count+afc U S'≤N:=by
 intro rest
 induction rest with
 | nil=>
  intro done Sj l hG hM _ hN
  exact⟨Sj,l,rfl,by rw[hG];simpa using hM,hN⟩
 | cons q r ihr=>
  intro done Sj l hG hM hk hN
  have hq:q∈G p:=by rw[hG];simp
  have hreach: ∃S' c,ad4 G k q Sj=some (S',c)∧Ext G Sj S' (gray++[p]) q c∧S'.count+afc U S'≤N:=by
   unfold ad4
   by_cases hm:Sj.met q>0
   ·rw[if_pos hm]
    exact⟨Sj,_,rfl,a04 hM.inv hm,hN⟩
   ·rw[if_neg hm]
    have h0:Sj.met q=0:=by
     rcases hM.inv.met_range q with h1 | ⟨_,h1,_⟩ | ⟨_,h1⟩
     ·exact h1
     ·omega
     ·simp only[ab4] at h1;omega
    refine ih q Sj (gray++[p]) hM.inv h0 (hU p hpU q hq) ?_ hk hN
    intro g hg'
    rcases List.mem_append.1 hg' with h1 | h1
    ·exact Or.inr ((hg g h1).step hq)
    ·simp at h1;subst h1;exact Or.inr (.one hq)
  obtain⟨S',c,hr1,hr2,hr3⟩:=hreach
  have hM':=a3i hM hq hr2
  obtain⟨S2,l2,h1,h2,h3⟩:=ihr (done++[q]) S' (min l c) (by rw[hG];simp) hM' (Nat.le_trans (ahg hr2.mets) hk) hr3
  refine⟨S2,l2,?_,h2,h3⟩
  unfold ag5
  rw[hr1]
  exact h1
theorem a2f (hU: ∀x∈U,∀y∈G x,y∈U)(hN:N≤1000000): ∀(k:Nat) (p:Int) (S:TS) (gray:List Int),Inv G S gray→S.met p=0→p∈U→(∀g∈gray,Lead0 G g p)→afc U S≤k→S.count+afc U S≤N→
  ∃S' r,aj7 G k p S=some (S',r)∧Ext G S S' gray p r∧S'.count+afc U S'≤N:=by
 intro k
 induction k with
 | zero=>
  intro p S gray h hp hpU _ hk _
  have:=ak5 hp hpU h.cnt.1
  omega
 | succ k ih=>
  intro p S gray h hp hpU hg hk hc
  have h1:=ak5 hp hpU h.cnt.1
  have hcount:S.count<1000000:=by omega
  have hM:=azq h hp hg hcount
  have hc1:(acp S p).count=S.count+1:=rfl
  obtain⟨S2,l,e1,hM2,hN2⟩:=a2y hU ih hg hpU (G p) [] (acp S p) (S.count+1) rfl hM (by omega) (by rw[hc1];omega)
  rw[ak0,if_pos hcount,e1]
  by_cases hl:l=S.count+1
  ·have hx:=axu hM2 h hp hl
   obtain⟨e,he,_⟩:=hM2.ext
   have hlen:S.opn.length<S2.opn.length:=by rw[he];simp
   refine⟨ac0 G S2 S.opn.length,l,by simp[hl,hlen],hx,?_⟩
   have hmm:afc U (ac0 G S2 S.opn.length)≤afc U S2:=ahg (fun x hx'=>by
    show aex S2.met (S2.opn.drop S.opn.length) ab4 x≠0
    rw[ak2]
    split
    ·simp[ab4]
    ·exact hx')
   have hcs:(ac0 G S2 S.opn.length).count=S2.count:=rfl
   rw[hcs]
   omega
  ·have hx:=a4g hM2 h hp hl
   exact⟨S2,l,by simp[hl],hx,hN2⟩
theorem a5v (hU: ∀x∈U,∀y∈G x,y∈U)(hN:N≤1000000)(k:Nat): ∀(l:List Int) (S:TS),(∀x∈l,x∈U)→Inv G S []→afc U S≤k→S.count+afc U S≤N→
  ∃S',ajl G k l S=some S'∧Inv G S' []∧(∀x,S.met x≠0→S'.met x≠0)∧ ∀x∈l,S'.met x≠0:=by
 intro l
 induction l with
 | nil=>intro S _ h _ _;exact⟨S,rfl,h,fun _ h=>h,by simp⟩
 | cons p r ihr=>
  intro S hl h hk hc
  have hreach: ∃S' c,ad4 G k p S=some (S',c)∧Ext G S S' [] p c∧S'.count+afc U S'≤N:=by
   unfold ad4
   by_cases hm:S.met p>0
   ·rw[if_pos hm]
    exact⟨S,_,rfl,a04 h hm,hc⟩
   ·rw[if_neg hm]
    have h0:S.met p=0:=by
     rcases h.met_range p with h1 | ⟨_,h1,_⟩ | ⟨_,h1⟩
     ·exact h1
     ·omega
     ·simp only[ab4] at h1;omega
    exact a2f hU hN k p S [] h h0 (hl p (by simp)) (by simp) hk hc
  obtain⟨S',c,hr1,hr2,hr3⟩:=hreach
  obtain⟨S2,h1,h2,h3,h4⟩:=ihr S' (fun x hx=>hl x (by simp[hx])) hr2.inv (Nat.le_trans (ahg hr2.mets) hk) hr3
  refine⟨S2,?_,h2,fun x hx=>h3 x (hr2.mets x hx),?_⟩
  ·unfold ajl
   rw[hr1]
   exact h1
  ·intro x hx
   rcases List.mem_cons.1 hx with rfl | hx
   ·exact h3 x hr2.metp
   ·exact h4 x hx
theorem Inv.shut (h:Inv G S []):S.opn=[]:=by
 cases hS:S.opn with
 | nil=>rfl
 | cons a r=>
  obtain⟨g,hg,_⟩:=h.up a (by rw[hS];simp)
  simp at hg
end
end Go.Vf
namespace Go.Proofs.YtfhpgmlfgjfknaaGreatDoor
open Go.RowKit Go.Vf Go.Maps
def ajw (g:Int→Int):Int→Option Value:=fun x=>if g x=0 then none else some (.int .i64 (g x))
theorem aq7 (g:Int→Int)(x:Int):(ajw g x).getD (.int .i64 0)=.int .i64 (g x):=by
 unfold ajw
 split
 ·rename_i h;simp[h]
 ·rfl
theorem alv (g:Int→Int)(x v:Int)(hv:v≠0):aux (ajw g) x (.int .i64 v)=ajw (upd g x v):=by
 funext y
 unfold aux ajw upd
 by_cases h:y=x
 ·simp[h,hv]
 ·simp[h]
theorem a7d (w:World):(zeroValue 3).run Tryz.prog w=.ok (.int .i64 0) w:=by kernel_rfl
structure MD (w:World)(base bm n:Nat)(pv:Int→Value)(L:List Mk):Prop where
 mp:MapAt w bm n (fun p=>(aau L p).map fun m=>ae5 m.cls (pv p) (.slice none 0 0))
 lt:bm<base
 parts: ∀m∈L,Ints base w (pv m.point) m.parts∧m.parts.length≤131072
 ins: ∀m∈L,InI m.point∧ ∀q∈m.parts,InI q
theorem MD.below {w w':World}{base bm n:Nat}{pv:Int→Value}{L:List Mk}(h:MD w base bm n pv L)(hb:Below base w w'):MD w' base bm n pv L:=
 ⟨h.mp.below hb h.lt,h.lt,fun m hm=>⟨(h.parts m hm).1.below hb (Nat.le_refl _),(h.parts m hm).2⟩,h.ins⟩
theorem Ints.val {n₀:Nat}{W:World}{v:Value}{zs:List Int}(h:Ints n₀ W v zs): ∃a cap,v=.slice a zs.length cap:=by
 rcases h with ⟨a,cap,rfl,rfl⟩ | ⟨b,off,cap,rfl,_,_⟩
 ·exact⟨_,_,rfl⟩
 ·exact⟨_,_,rfl⟩
theorem Ints.cell {n₀:Nat}{W:World}{a:Option Addr}{n cap:Nat}{zs:List Int}(h:Ints n₀ W (.slice a n cap) zs)(hne:zs≠ []): ∃b off,a=some ⟨b,off,none⟩∧n=zs.length∧b<n₀∧ ∀j,j<zs.length→W.cell? ⟨b,off+j,none⟩=some (.int .i64 (zs[j]?.getD 0)):=by
 rcases h with ⟨a',cap',e,rfl⟩ | ⟨b,off,cap',e,hb,hc⟩
 ·exact absurd rfl hne
 ·simp only[Value.slice.injEq] at e
  exact⟨b,off,e.1,e.2.1,hb,hc⟩
theorem MD.look {w:World}{base bm n:Nat}{pv:Int→Value}{L:List Mk}(h:MD w base bm n pv L){p:Int}(hp:InI p): ∃c a k cap,(∀x:World,x.heap=w.heap→(Instr.lookup 89 (.map (some bm)) (.int .i64 p) false).run Tryz.prog x=.ok (ae5 c (.slice a k cap) (.slice none 0 0)) x)∧
  Ints base w (.slice a k cap) (aab L p)∧k=(aab L p).length∧k≤131072∧ ∀q∈aab L p,InI q:=by
 have hl: ∀x:World,x.heap=w.heap→_:=fun x hx=>(h.mp.block (w':=x) (by rw[hx])).look Tryz.underlying89 (am2 x) hp
 unfold aab
 cases hm:aau L p with
 | none=>
  rw[hm] at hl
  exact⟨0,none,0,0,hl,.inl ⟨none,0,rfl,rfl⟩,rfl,by omega,by simp⟩
 | some m=>
  rw[hm] at hl
  have hmem:m∈L:=List.mem_of_find?_eq_some hm
  have hpt:m.point=p:=by simpa using List.find?_some hm
  obtain⟨hi,hlen⟩:=h.parts m hmem
  rw[hpt] at hi
  obtain⟨a,cap,hv⟩:=hi.val
  rw[hv] at hi
  simp only[Option.map_some,Option.getD_some,hv] at hl
  exact⟨m.cls,a,m.parts.length,cap,hl,hi,rfl,hlen,(h.ins m hmem).2⟩
structure WK (w:World)(base bw bm bt bl:Nat)(vo vr:Value)(S:TS):Prop where
 blk:Blk w bw 137 #[.map (some bm),.map (some bt),.int .i64 S.count,vo,vr,.map (some bl)]
 gw:base≤bw
 gt:base≤bt
 gl:base≤bl
 ne:bt≠bl
 sz:base≤w.heap.size
 met:MapAt w bt (S.count.toNat+S.ord.length) (ajw S.met)
 loops:MapAt w bl S.ord.length (ajw S.loops)
 opn:IOwn w base vo S.opn
 ord:IOwn w base vr S.ord
 sep:vo.ownBlock=none∨vo.ownBlock≠vr.ownBlock
 cnt:0≤S.count∧S.count≤1000000∧(S.opn.length+S.ord.length:Int)≤S.count
 ins:(∀x∈S.opn,InI x)∧ ∀x∈S.ord,InI x
theorem a79 (c:Int)(u v:Value)(w:World):(Instr.field 141 (ae5 c u v) 0).run Tryz.prog w=.ok (.int .i64 c) w:=by kernel_rfl
theorem a5j (c:Int)(u v:Value)(w:World):(Instr.field 141 (ae5 c u v) 1).run Tryz.prog w=.ok u w:=by kernel_rfl
theorem a5i (c:Int)(u v:Value)(w:World):(Instr.field 141 (ae5 c u v) 2).run Tryz.prog w=.ok v w:=by kernel_rfl
theorem aby (w:World)(n B:Nat):Below B w (w.drewN n):=⟨rfl,rfl,rfl,Nat.le_refl _,fun _ _=>rfl⟩
theorem art {n₀:Nat}(a:Option Addr)(k cap:Nat)(zs:List Int)(x:Int)(w:World)(h:Ints n₀ w (.slice a k cap) zs)(hl:zs.length≤131072):
  Calls Tryz.prog 178 #[.slice a k cap,.int .i64 x] w fun e w'=>e=.returned (.bool (zs.contains x))∧w'=w:=by
 rcases h with ⟨a',cap',e,rfl⟩ | ⟨b,off,cap',e,_,hc⟩
 ·cases e
  exact Tryz.slices_Contains_int_empty _ _ _ _
 ·cases e
  have:=Tryz.slices_Contains_int b off zs.length cap zs x w (Nat.le_refl _) (by omega) (fun j hj=>by rw[hc j hj];simp[List.getD])
  rwa [List.take_length] at this
theorem WK.below {w w':World}{base bw bm bt bl:Nat}{vo vr:Value}{S:TS}(h:WK w base bw bm bt bl vo vr S)(hb:Below w.heap.size w w'):WK w' base bw bm bt bl vo vr S:=
 ⟨h.blk.below hb h.blk.lt,h.gw,h.gt,h.gl,h.ne,Nat.le_trans h.sz hb.size,h.met.below hb h.met.lt,h.loops.below hb h.loops.lt,aad h.opn hb,aad h.ord hb,h.sep,h.cnt,h.ins⟩
end Go.Proofs.YtfhpgmlfgjfknaaGreatDoor
