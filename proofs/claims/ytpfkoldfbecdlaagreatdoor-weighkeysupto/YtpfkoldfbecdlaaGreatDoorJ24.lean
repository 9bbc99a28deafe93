/- Contracts and lemmas (nothing is claimed here). -/
import Derived.Test.YtpfkoldfbecdlaaGreatDoorJ15
import Derived.Test.YtpfkoldfbecdlaaGreatDoorJ8
import Derived.Test.YtpfkoldfbecdlaaGreatDoorJ2
import Derived.Deep.Upon
namespace Go.Vf
section
variable (cls:Int→Int)(fnd:List Int→Bool)
def ab1:List Int→Int→List Int→List Int×List Int
 | r,_,[]=>(r,[])
 | r,top,x::xs=>if cls x=0 then (r,x::xs) else if fnd (r++[x])=true∧top<cls x then ab1 (r++[x]) top xs else ((ab1 r (max top (cls x)) xs).1,x::(ab1 r (max top (cls x)) xs).2)
def abe (l:List Int):Nat→Nat
 | 0=>0
 | n+1=>if fnd (l.take (n+1))=true then n+1 else abe l n
def ad7 (l:List Int):Nat:=abe fnd l (min 8 l.length)
def acl (l:List Int):List Int×List Int:=if ad7 fnd l=0 then (l.take 1,l.drop 1) else ab1 cls fnd (l.take (ad7 fnd l)) 0 (l.drop (ad7 fnd l))
def allD:Nat→List Int→List (List Int)
 | 0,_=>[]
 | k+1,l=>if l=[] then [] else (acl cls fnd l).1::allD k (acl cls fnd l).2
def aax (l:List Int):List (List Int):=allD cls fnd l.length l
variable {cls:Int→Int}{fnd:List Int→Bool}
theorem firstN_le (l:List Int): ∀n,abe fnd l n≤n
 | 0=>Nat.le_refl _
 | n+1=>by
  unfold abe
  split
  ·exact Nat.le_refl _
  ·exact Nat.le_succ_of_le (firstN_le l n)
theorem firstN_hit (l:List Int): ∀n,0<abe fnd l n→fnd (l.take (abe fnd l n))=true
 | 0=>fun h=>absurd h (by simp[abe])
 | n+1=>by
  unfold abe
  split
  ·intro _;assumption
  ·exact firstN_hit l n
theorem firstN_above (l:List Int): ∀n k,abe fnd l n<k→k≤n→fnd (l.take k)=false
 | 0,k=>fun h1 h2=>by omega
 | n+1,k=>by
  unfold abe
  split
  ·intro h1 h2;omega
  ·rename_i hn
   intro h1 h2
   by_cases e:k=n+1
   ·subst e;simpa using hn
   ·exact firstN_above l n k h1 (by omega)
theorem firstN_cut (l:List Int)(a:Nat): ∀b,a≤b→(∀n,a<n→n≤b→fnd (l.take n)=false)→abe fnd l b=abe fnd l a
 | 0=>fun h _=>by rw[Nat.le_zero.1 h]
 | b+1=>fun h hn=>by
  by_cases e:a=b+1
  ·rw[e]
  ·have h1:=hn (b+1) (by omega) (Nat.le_refl _)
   rw[abe,h1]
   simp only[Bool.false_eq_true,if_false]
   exact firstN_cut l a b (by omega) (fun n g1 g2=>hn n g1 (by omega))
theorem firstN_same (l m:List Int): ∀n,(∀k,k≤n→l.take k=m.take k)→abe fnd l n=abe fnd m n
 | 0=>fun _=>rfl
 | n+1=>fun h=>by
  rw[abe,abe,h (n+1) (Nat.le_refl _),firstN_same l m n (fun k hk=>h k (by omega))]
theorem headN_le (l:List Int):ad7 fnd l≤l.length∧ad7 fnd l≤8:=by
 have:=firstN_le (fnd:=fnd) l (min 8 l.length)
 unfold ad7
 omega
theorem headN_hit {l:List Int}(h:ad7 fnd l≠0):fnd (l.take (ad7 fnd l))=true:=firstN_hit l _ (Nat.pos_of_ne_zero h)
theorem headN_above {l:List Int}{k:Nat}(h1:ad7 fnd l<k)(h2:k≤8)(h3:k≤l.length):fnd (l.take k)=false:=firstN_above l _ k h1 (by omega)
theorem headN_most {l:List Int}{x:Int}(m:Nat)(hm:m≤8)(hx:l.head? =some x)(hf: ∀q,fnd q=true→q.head? =some x→q.length≤m):ad7 fnd l=abe fnd l (min m l.length):=by
 unfold ad7
 refine firstN_cut l _ _ (by omega) fun n h1 h2=> ?_
 cases hb:fnd (l.take n) with
 | false=>rfl
 | true=>
  have e:(l.take n).head? =some x:=by
   cases l with
   | nil=>simp at hx
   | cons y t=>
    cases n with
    | zero=>omega
    | succ n=>simpa using hx
  have:=hf _ hb e
  rw[List.length_take] at this
  omega
theorem scanD_len: ∀(xs r:List Int) (top:Int),(ab1 cls fnd r top xs).1.length+(ab1 cls fnd r top xs).2.length=r.length+xs.length:=by
 intro xs
 induction xs with
 | nil=>intro r top;simp[ab1]
 | cons x xs ih=>
  intro r top
  unfold ab1
  split
  ·simp
  ·split
   ·have:=ih (r++[x]) top
    simp at this⊢
    omega
   ·have:=ih r (max top (cls x))
    simp
    omega
theorem scanD_pre: ∀(xs r:List Int) (top:Int),∃a,(ab1 cls fnd r top xs).1=r++a:=by
 intro xs
 induction xs with
 | nil=>intro r top;exact⟨[],by simp[ab1]⟩
 | cons x xs ih=>
  intro r top
  unfold ab1
  split
  ·exact⟨[],by simp⟩
  ·split
   ·obtain⟨a,ha⟩:=ih (r++[x]) top
    exact⟨x::a,by rw[ha];simp⟩
   ·exact ih r _
theorem stepD_len (l:List Int):(acl cls fnd l).1.length+(acl cls fnd l).2.length=l.length:=by
 have h:=headN_le (fnd:=fnd) l
 unfold acl
 split
 ·simp;omega
 ·rw[scanD_len]
  simp
  omega
theorem stepD_pos {l:List Int}(h:l≠ []):0<(acl cls fnd l).1.length:=by
 have hl:0<l.length:=List.length_pos_iff.2 h
 unfold acl
 split
 ·simp;omega
 ·rename_i hn
  obtain⟨a,ha⟩:=scanD_pre (cls:=cls) (fnd:=fnd) (l.drop (ad7 fnd l)) (l.take (ad7 fnd l)) 0
  rw[ha]
  simp
  omega
theorem aei {l:List Int}(h:l≠ []):(acl cls fnd l).2.length<l.length:=by
 have h1:=stepD_len (cls:=cls) (fnd:=fnd) l
 have h2:=stepD_pos (cls:=cls) (fnd:=fnd) h
 omega
theorem allD_more: ∀(n k:Nat) (l:List Int),l.length≤n→l.length≤k→allD cls fnd n l=allD cls fnd k l:=by
 intro n
 induction n with
 | zero=>
  intro k l h1 _
  obtain rfl:l=[]:=List.eq_nil_of_length_eq_zero (by omega)
  cases k<;>simp[allD]
 | succ n ih=>
  intro k l h1 h2
  by_cases hl:l=[]
  ·subst hl;cases k<;>simp[allD]
  ·cases k with
   | zero=>exact absurd (List.eq_nil_of_length_eq_zero (by omega)) hl
   | succ k=>
    have h3:=aei (cls:=cls) (fnd:=fnd) hl
    simp only[allD,if_neg hl]
    rw[ih k _ (by omega) (by omega)]
theorem aea:aax cls fnd []=[]:=rfl
theorem acz {l:List Int}(h:l≠ []):aax cls fnd l=(acl cls fnd l).1::aax cls fnd (acl cls fnd l).2:=by
 have h3:=aei (cls:=cls) (fnd:=fnd) h
 unfold aax
 cases hl:l.length with
 | zero=>exact absurd (List.eq_nil_of_length_eq_zero hl) h
 | succ n=>
  rw[allD,if_neg h,allD_more n _ _ (by omega) (Nat.le_refl _)]
theorem steps_ind {P:List Int→Prop}(h0:P [])(h1: ∀l,l≠ []→P (acl cls fnd l).2→P l): ∀l,P l:=by
 intro l
 induction hn:l.length using Nat.strongRecOn generalizing l with
 | ind n ih=>
  by_cases hl:l=[]
  ·rw[hl];exact h0
  ·refine h1 l hl (ih _ ?_ _ rfl)
   have:=aei (cls:=cls) (fnd:=fnd) hl
   omega
theorem abz (l:List Int):(aax cls fnd l).length≤l.length:=by
 refine steps_ind (cls:=cls) (fnd:=fnd) (P:=fun l=>(aax cls fnd l).length≤l.length) (by simp[aea]) (fun l hl ih=> ?_) l
 rw[acz hl]
 have:=aei (cls:=cls) (fnd:=fnd) hl
 simp
 omega
theorem stepsD_ne (l:List Int): ∀r∈aax cls fnd l,r≠ []:=by
 refine steps_ind (cls:=cls) (fnd:=fnd) (P:=fun l=> ∀r∈aax cls fnd l,r≠ []) (by simp[aea]) (fun l hl ih=> ?_) l
 rw[acz hl]
 intro r hr
 rcases List.mem_cons.1 hr with rfl | hr
 ·have:=stepD_pos (cls:=cls) (fnd:=fnd) hl
  intro e
  rw[e] at this
  simp at this
 ·exact ih r hr
theorem stepsD_sum (l:List Int):((aax cls fnd l).map List.length).sum=l.length:=by
 refine steps_ind (cls:=cls) (fnd:=fnd) (P:=fun l=>((aax cls fnd l).map List.length).sum=l.length) (by simp[aea]) (fun l hl ih=> ?_) l
 rw[acz hl,List.map_cons,List.sum_cons,ih]
 exact stepD_len l
theorem scanD_tail (Y:List Int)(hY: ∀y,Y.head? =some y→cls y=0): ∀(xs r:List Int) (top:Int),ab1 cls fnd r top (xs++Y)=((ab1 cls fnd r top xs).1,(ab1 cls fnd r top xs).2++Y):=by
 intro xs
 induction xs with
 | nil=>
  intro r top
  cases Y with
  | nil=>simp[ab1]
  | cons y Y=>
   have:=hY y rfl
   simp[ab1,this]
 | cons x xs ih=>
  intro r top
  rw[List.cons_append]
  unfold ab1
  split
  ·rfl
  ·split
   ·exact ih _ _
   ·rw[ih];rfl
theorem stepD_tail (Y:List Int)(hY: ∀y,Y.head? =some y→cls y=0)(m:Nat)(hm: ∀q,fnd q=true→q.length≤m){l:List Int}(hl:l≠ [])(hlm:m≤l.length):acl cls fnd (l++Y)=((acl cls fnd l).1,(acl cls fnd l).2++Y):=by
 have hpos:0<l.length:=List.length_pos_iff.2 hl
 have e:ad7 fnd (l++Y)=ad7 fnd l:=by
  have cut: ∀(k:List Int) (b:Nat),m≤k.length→b≤k.length→abe fnd k b=abe fnd k (min m b):=fun k b h1 h2=>by
   refine firstN_cut k _ _ (by omega) fun n g1 g2=> ?_
   cases hb:fnd (k.take n) with
   | false=>rfl
   | true=>
    have:=hm _ hb
    rw[List.length_take] at this
    omega
  unfold ad7
  rw[cut l _ hlm (by omega),cut (l++Y) _ (by simp;omega) (by omega)]
  have e2:min m (min 8 (l++Y).length)=min m (min 8 l.length):=by simp;omega
  rw[e2]
  refine firstN_same _ _ _ fun k hk=> ?_
  rw[List.take_append_of_le_length (by omega)]
 have hle:=(headN_le (fnd:=fnd) l).1
 unfold acl
 rw[e]
 split
 ·rw[List.take_append_of_le_length (by omega),List.drop_append_of_le_length (by omega)]
 ·rw[List.take_append_of_le_length hle,List.drop_append_of_le_length hle,scanD_tail Y hY]
theorem tails (Y:List Int)(hY: ∀y,Y.head? =some y→cls y=0)(m:Nat)(hm: ∀q,fnd q=true→q.length≤m)(l:List Int):
  ∀i,i+m<(aax cls fnd l).length→(aax cls fnd (l++Y))[i]? =(aax cls fnd l)[i]?:=by
 refine steps_ind (cls:=cls) (fnd:=fnd) (P:=fun l=> ∀i,i+m<(aax cls fnd l).length→(aax cls fnd (l++Y))[i]? =(aax cls fnd l)[i]?) (by simp[aea]) (fun l hl ih=> ?_) l
 intro i hi
 have h1:=abz (cls:=cls) (fnd:=fnd) l
 have h2:=stepD_tail (cls:=cls) Y hY m hm hl (by omega)
 have hne:l++Y≠ []:=by simp[hl]
 rw[acz hl] at hi⊢
 rw[acz hne,h2]
 cases i with
 | zero=>rfl
 | succ i=>
  simp only[List.getElem?_cons_succ]
  exact ih i (by simp at hi;omega)
end
end Go.Vf
namespace Go.Vf
section
variable (cls:Int→Int)(fnd:List Int→Bool)(m:Nat)
def aa6:List Int→List Int→List Int×List Int×Bool
 | row,[]=>(row,[],false)
 | row,x::xs=>if row.length=m∨cls x=0 then (row,x::xs,true) else if fnd (row++[x])=true then aa6 (row++[x]) xs else (row,x::xs,false)
def aa1:List Int→List (List Int)→List Int×List (List Int)
 | row,[]=>(row,[])
 | row,p::ps=>if (aa6 cls fnd m row p).2.2=true then ((aa6 cls fnd m row p).1,(aa6 cls fnd m row p).2.1::ps) else ((aa1 (aa6 cls fnd m row p).1 ps).1,(aa6 cls fnd m row p).2.1::(aa1 (aa6 cls fnd m row p).1 ps).2)
def Rising:Int→List (List Int)→Prop
 | _,[]=>True
 | top,p::ps=>(p=[]∧Rising top ps)∨ ∃c,p≠ []∧(∀x∈p,cls x=c)∧(c=0∨top<c)∧Rising c ps
def acb:Nat→List (List Int)→List (List Int)
 | _,[]=>[]
 | n,p::ps=>p.drop (min n p.length)::acb (n-min n p.length) ps
variable {cls:Int→Int}{fnd:List Int→Bool}{m:Nat}
theorem Rising.mono: ∀ {ps:List (List Int)} {a b:Int},Rising cls a ps→b≤a→Rising cls b ps:=by
 intro ps
 induction ps with
 | nil=>intro a b _ _;trivial
 | cons p ps ih=>
  intro a b h hb
  rcases h with ⟨h1,h2⟩ | ⟨c,hp0,h1,h2,h3⟩
  ·exact .inl ⟨h1,ih h2 hb⟩
  ·exact .inr ⟨c,hp0,h1,by omega,h3⟩
theorem dropPs_flat: ∀(ps:List (List Int)) (n:Nat),(acb n ps).flatten=ps.flatten.drop n:=by
 intro ps
 induction ps with
 | nil=>intro n;simp[acb]
 | cons p ps ih=>
  intro n
  rw[acb,List.flatten_cons,List.flatten_cons,ih,List.drop_append]
  congr 1
  ·by_cases h:n≤p.length
   ·rw[Nat.min_eq_left h]
   ·rw[Nat.min_eq_right (by omega),List.drop_eq_nil_of_le (Nat.le_refl _),List.drop_eq_nil_of_le (by omega)]
  ·congr 1
   omega
theorem dropPs_zero: ∀(ps:List (List Int)),acb 0 ps=ps:=by
 intro ps
 induction ps with
 | nil=>rfl
 | cons p ps ih=>simp[acb,ih]
theorem dropPs_length: ∀(ps:List (List Int)) (n:Nat),(acb n ps).length=ps.length:=by
 intro ps
 induction ps with
 | nil=>intro n;rfl
 | cons p ps ih=>intro n;simp[acb,ih]
theorem Rising.drop (_hc0: ∀x,0≤cls x): ∀(ps:List (List Int)) (n:Nat),Rising cls 0 ps→Rising cls 0 (acb n ps):=by
 intro ps
 induction ps with
 | nil=>intro n _;trivial
 | cons p ps ih=>
  intro n h
  rcases h with ⟨h1,h2⟩ | ⟨c,hp0,h1,h2,h3⟩
  ·subst h1
   exact .inl ⟨by simp,by simpa using ih n h2⟩
  ·by_cases hn:n<p.length
   ·have e:n-min n p.length=0:=by omega
    rw[acb,e,dropPs_zero]
    exact .inr ⟨c,by rw[Nat.min_eq_left (by omega)];intro e;have:=congrArg List.length e;simp at this;omega,fun x hx=>h1 x (List.mem_of_mem_drop hx),h2,h3⟩
   ·have e:min n p.length=p.length:=by omega
    rw[acb,e]
    exact .inl ⟨by simp,ih _ (h3.mono (by omega))⟩
def Most (fnd:List Int→Bool)(x:Int)(m:Nat):Prop:= ∀q,fnd q=true→q.head? =some x→q.length≤m
theorem scanD_full {x:Int}(hm:Most fnd x m): ∀(xs r:List Int) (top:Int),r.head? =some x→m≤r.length→ab1 cls fnd r top xs=(r,xs):=by
 intro xs
 induction xs with
 | nil=>intro r top _ _;rfl
 | cons y xs ih=>
  intro r top hr hl
  unfold ab1
  split
  ·rfl
  ·rw[if_neg,ih r _ hr hl]
   intro h
   have:=hm _ h.1 (by rw[List.head?_append,hr];rfl)
   simp at this
   omega
theorem scanD_block: ∀(p xs r:List Int) (top:Int),(∀y∈p,cls y≠0∧cls y≤top)→ab1 cls fnd r top (p++xs)=((ab1 cls fnd r top xs).1,p++(ab1 cls fnd r top xs).2):=by
 intro p
 induction p with
 | nil=>intro xs r top _;rfl
 | cons y p ih=>
  intro xs r top h
  have hy:=h y (by simp)
  have e:max top (cls y)=top:=by omega
  rw[List.cons_append]
  conv=>lhs;unfold ab1
  rw[if_neg hy.1,if_neg (by omega),e,ih xs r top (fun z hz=>h z (by simp[hz]))]
  rfl
theorem joinPc_len: ∀(p row:List Int),row.length≤m→(aa6 cls fnd m row p).1.length≤m∧ ∃a,(aa6 cls fnd m row p).1=row++a∧p=a++(aa6 cls fnd m row p).2.1:=by
 intro p
 induction p with
 | nil=>intro row h;exact⟨h,[],by simp[aa6],by simp[aa6]⟩
 | cons x xs ih=>
  intro row h
  unfold aa6
  split
  ·exact⟨h,[],by simp,by simp⟩
  ·rename_i hc
   split
   ·obtain⟨h1,a,h2,h3⟩:=ih (row++[x]) (by simp;omega)
    exact⟨h1,x::a,by rw[h2];simp,by rw[List.cons_append,←h3]⟩
   ·exact⟨h,[],by simp,by simp⟩
theorem joinPc_go {x:Int}(hm:Most fnd x m){c:Int}(hc:c≠0): ∀(p row:List Int) (top:Int) (rest:List Int),(∀y∈p,cls y=c)→top<c→row.head? =some x→row.length≤m→
  ab1 cls fnd row top (p++rest)=(if (aa6 cls fnd m row p).2.2=true then ((aa6 cls fnd m row p).1,(aa6 cls fnd m row p).2.1++rest) else if (aa6 cls fnd m row p).2.1=[] then ab1 cls fnd (aa6 cls fnd m row p).1 top rest else ((ab1 cls fnd (aa6 cls fnd m row p).1 c rest).1,(aa6 cls fnd m row p).2.1++(ab1 cls fnd (aa6 cls fnd m row p).1 c rest).2)):=by
 intro p
 induction p with
 | nil=>intro row top rest _ _ _ _;simp[aa6]
 | cons y p ih=>
  intro row top rest hp ht hr hl
  have hy:cls y=c:=hp y (by simp)
  unfold aa6
  by_cases h1:row.length=m∨cls y=0
  ·rw[if_pos h1]
   simp only[if_true]
   rw[scanD_full hm _ _ _ hr (by omega)]
  ·rw[if_neg h1]
   by_cases h2:fnd (row++[y])=true
   ·rw[if_pos h2,List.cons_append]
    conv=>lhs;unfold ab1
    rw[if_neg (by omega),if_pos ⟨h2,by omega⟩]
    exact ih (row++[y]) top rest (fun z hz=>hp z (by simp[hz])) ht (by rw[List.head?_append,hr];rfl) (by simp;omega)
   ·rw[if_neg h2,List.cons_append]
    conv=>lhs;unfold ab1
    have e:max top (cls y)=c:=by omega
    rw[if_neg (by omega),if_neg (fun h=>h2 h.1),e,scanD_block p rest row c (fun z hz=>by have:=hp z (by simp[hz]);omega)]
    simp
theorem join_scan {x:Int}(hm:Most fnd x m)(_hc0: ∀x,0≤cls x): ∀(ps:List (List Int)) (row:List Int) (top:Int),Rising cls top ps→0≤top→row.head? =some x→row.length≤m→
  ab1 cls fnd row top ps.flatten=((aa1 cls fnd m row ps).1,(aa1 cls fnd m row ps).2.flatten)∧Rising cls top (aa1 cls fnd m row ps).2∧(aa1 cls fnd m row ps).2.length=ps.length:=by
 intro ps
 induction ps with
 | nil=>intro row top _ _ _ _;exact⟨by simp[aa1,ab1],trivial,rfl⟩
 | cons p ps ih=>
  intro row top h h0 hr hl
  rw[List.flatten_cons]
  rcases h with ⟨h1,h2⟩ | ⟨c,hp0,h1,h2,h3⟩
  ·subst h1
   obtain⟨i1,i2,i3⟩:=ih row top h2 h0 hr hl
   simp only[aa1,aa6,Bool.false_eq_true,if_false,List.nil_append,List.flatten_cons,List.length_cons]
   exact⟨i1,.inl ⟨rfl,i2⟩,by rw[i3]⟩
  ·by_cases hc:c=0
   ·subst hc
    cases p with
    | nil=>exact absurd rfl hp0
    | cons y p=>
     have hy:cls y=0:=h1 y (by simp)
     have e:aa6 cls fnd m row (y::p)=(row,y::p,true):=by unfold aa6;rw[if_pos (.inr hy)]
     simp only[aa1,e,if_true,List.flatten_cons,List.length_cons]
     refine⟨?_,.inr ⟨0,hp0,h1,.inl rfl,h3⟩,trivial⟩
     rw[List.cons_append]
     unfold ab1
     rw[if_pos hy]
   ·have ht:top<c:=by omega
    have hgo:=joinPc_go hm hc p row top ps.flatten h1 ht hr hl
    obtain⟨k1,a,k2,k3⟩:=joinPc_len (cls:=cls) (fnd:=fnd) p row hl
    have hr':(aa6 cls fnd m row p).1.head? =some x:=by rw[k2,List.head?_append,hr];rfl
    have hp': ∀y∈(aa6 cls fnd m row p).2.1,cls y=c:=fun y hy=>h1 y (by rw[k3];exact List.mem_append_right _ hy)
    rw[hgo]
    simp only[aa1]
    generalize aa6 cls fnd m row p=J at k1 hr' hp'⊢
    obtain⟨r',p',st⟩:=J
    simp only at k1 hr' hp'⊢
    cases st with
    | true=>
     simp only[if_true,List.flatten_cons,List.length_cons]
     refine⟨trivial,?_,trivial⟩
     by_cases e:p'=[]
     ·exact .inl ⟨e,h3.mono (by omega)⟩
     ·exact .inr ⟨c,e,hp',.inr ht,h3⟩
    | false=>
     simp only[Bool.false_eq_true,if_false,List.flatten_cons,List.length_cons]
     by_cases e:p'=[]
     ·subst e
      obtain⟨i1,i2,i3⟩:=ih r' top (h3.mono (by omega)) h0 hr' k1
      simp only[if_true,List.nil_append]
      exact⟨i1,.inl ⟨rfl,i2⟩,by rw[i3]⟩
     ·obtain⟨i1,i2,i3⟩:=ih r' c h3 (by omega) hr' k1
      simp only[if_neg e]
      rw[i1]
      exact⟨rfl,.inr ⟨c,e,hp',.inr ht,i2⟩,by rw[i3]⟩
def byC (cls:Int→Int):Nat→List Int→List (List Int)
 | 0,_=>[]
 | _+1,[]=>[]
 | n+1,x::xs=>(x::xs.takeWhile (fun y=>cls y==cls x))::byC cls n (xs.dropWhile (fun y=>cls y==cls x))
theorem af1 {p:Int→Bool}: ∀l:List Int,(l.dropWhile p).length≤l.length:=by
 intro l
 induction l with
 | nil=>simp
 | cons x t ih=>
  rw[List.dropWhile_cons]
  split
  ·simp;omega
  ·simp
theorem byC_flat: ∀(n:Nat) (l:List Int),l.length≤n→(byC cls n l).flatten=l:=by
 intro n
 induction n with
 | zero=>intro l h;obtain rfl:l=[]:=List.eq_nil_of_length_eq_zero (by omega);rfl
 | succ n ih=>
  intro l h
  cases l with
  | nil=>rfl
  | cons x xs=>
   have h1:=af1 (p:=fun y=>cls y==cls x) xs
   simp only[List.length_cons] at h
   rw[byC,List.flatten_cons,ih _ (by omega),List.cons_append,List.takeWhile_append_dropWhile]
theorem CO.dropW {p:Int→Bool}: ∀ {l:List Int},CO cls l→CO cls (l.dropWhile p):=by
 intro l
 induction l with
 | nil=>intro h;exact h
 | cons x t ih=>
  intro h
  rw[List.dropWhile_cons]
  split
  ·exact ih h.tail
  ·exact h
theorem CO.next: ∀ {xs:List Int} {x:Int},CO cls (x::xs)→ ∀y,(xs.dropWhile (fun y=>cls y==cls x)).head? =some y→cls y=0∨cls x<cls y:=by
 intro xs
 induction xs with
 | nil=>intro x _ y hy;simp at hy
 | cons z t ih=>
  intro x h y hy
  rw[List.dropWhile_cons] at hy
  by_cases e:cls z=cls x
  ·rw[if_pos (by simp[e])] at hy
   have h2:=ih h.2 y (by rw[e];exact hy)
   rw[e] at h2
   exact h2
  ·rw[if_neg (by simp[e])] at hy
   obtain rfl:z=y:=by simpa using hy
   have:=h.1
   by_cases h0:cls z=0
   ·exact .inl h0
   ·have:=this h0;omega
theorem byC_rising (_hc0: ∀x,0≤cls x): ∀(n:Nat) (l:List Int) (top:Int),CO cls l→(∀y,l.head? =some y→cls y=0∨top<cls y)→Rising cls top (byC cls n l):=by
 intro n
 induction n with
 | zero=>intro l top _ _;trivial
 | succ n ih=>
  intro l top h ht
  cases l with
  | nil=>trivial
  | cons x xs=>
   refine .inr ⟨cls x,by simp,fun y hy=> ?_,ht x rfl,ih _ _ h.tail.dropW h.next⟩
   rcases List.mem_cons.1 hy with rfl | hy
   ·rfl
   ·simpa using List.all_eq_true.1 (List.all_takeWhile (p:=fun y=>cls y==cls x) (l:=xs)) y hy
end
end Go.Vf
namespace Go.Proofs.YtpfkoldfbecdlaaGreatDoor
open Go.RowKit Go.Vf Go.Maps
theorem own_take {w:World}{base g n cap:Nat}{e:TypeId}{size:Nat}{xs:List Value}(h:w.ownsRow base e size (.slice (some ⟨g,0,none⟩) n cap) n xs){m:Nat}(hm:m≤n):w.ownsRow base e size (.slice (some ⟨g,0,none⟩) m cap) m (xs.take (m*size)):=by
 obtain⟨h1,h2⟩:=h
 have hms:m*size≤n*size:=Nat.mul_le_mul_right _ hm
 refine⟨by rw[List.length_take,h1];exact Nat.min_eq_left hms,?_⟩
 rcases h2 with ⟨e,_⟩ | ⟨g',cap',cur,e,hb,hh,hc1,hc2,hc3,hc4⟩
 ·cases e
 ·cases e
  exact .inr ⟨g,cap,cur,rfl,hb,hh,by omega,hc2,hc3,by rw[←hc4,List.take_take,Nat.min_eq_left hms]⟩
theorem IOwn.take {w:World}{base g n cap:Nat}{zs:List Int}(h:IOwn w base (.slice (some ⟨g,0,none⟩) n cap) zs){m:Nat}(hm:m≤zs.length):IOwn w base (.slice (some ⟨g,0,none⟩) m cap) (zs.take m):=by
 obtain⟨a,c,hv⟩:=h.val
 have hn:n=zs.length:=(Value.slice.inj hv).2.1
 subst hn
 have:=own_take h hm
 unfold IOwn
 rw[List.length_take,Nat.min_eq_left hm,List.map_take]
 simpa using this
theorem append_keep (w:World)(base:Nat)(ty:TypeId)(v:Value)(zs:List Int)(n:Int)(hown:IOwn w base v zs)(a:Addr)(c:Nat)(hcell:w.cell? a=some (.int .i64 n))(hlen:zs.length≤1099511627776)(hbase:base≤w.heap.size):
  ∃v' w',(Builtin.append_ #[90,90] ty #[v,.slice (some a) 1 c]).run Tryz.prog w=.ok v' w'∧IOwn w' base v' (zs++[n])∧IOwn w' base v zs∧w.grownBy w' v.ownBlock:=by
 obtain⟨i,hi,hz,hsz,hby⟩:=info_parts info3
 have hnews: ∀j u,[Value.int .i64 n][j]? =some u→w.cell? (a.add j)=some u:=fun j u hj=>by
  match j,hj with
  | 0,hj=>simp at hj;subst hj;rw[show a.add 0=a by cases a;simp[Addr.add]];exact hcell
 have h1: ∀u∈[Value.int .i64 n],u.oneCell'=true:=fun u hu=>by simp at hu;subst hu;rfl
 obtain⟨v',w',hr,ho,hg,_,hat⟩:=run_append_own_at (P:=Tryz.prog) w base 90 ty 3 i (.int .i64 0) 1 8 Tryz.underlying90 hi hz hsz hby rfl (by decide) v zs.length (zs.map (Value.int .i64)) hown a 1 c [.int .i64 n] rfl hnews h1 (by unfold maxLen;omega) (by omega) hbase
 have ho':IOwn w' base v' (zs++[n]):=by unfold IOwn;rw[List.map_append,List.length_append];exact ho
 refine⟨v',w',hr,ho',?_,hg⟩
 have hown0:=hown
 rcases hown.2 with ⟨rfl,h0⟩ | ⟨g,cap,cur,rfl,hbg,hgg,hnc,hcm,hcs,htake⟩
 ·rw[List.eq_nil_of_length_eq_zero h0];exact IOwn.nil _ _
 ·by_cases hroom:zs.length+1≤cap
  ·have hfit:zs.length*i.size+[Value.int .i64 n].length≤cur.size:=by rw[hsz,hcs];simp;omega
   have hr2:=run_append_room (P:=Tryz.prog) w 90 ty 3 i Tryz.underlying90 hi g zs.length cap cur hgg a 1 c [.int .i64 n] (by rw[hsz];rfl) hnews h1 hroom hfit
   rw[hr] at hr2
   have e:=(Result.ok.inj hr2).1
   rw[e] at ho'
   have:=ho'.take (m:=zs.length) (by simp)
   simpa using this
  ·have holds: ∀j u,(zs.map (Value.int .i64))[j]? =some u→w.cell? ((⟨g,0,none⟩:Addr).add j)=some u:=World.ownsRow.cells (g:=g) hown rfl
   have hr2:=run_append_grow (P:=Tryz.prog) w 90 ty 3 i (.int .i64 0) Tryz.underlying90 hi hz ⟨g,0,none⟩ zs.length cap (zs.map (Value.int .i64)) (by rw[hsz];simp) holds a 1 c [.int .i64 n] (by rw[hsz];rfl) hnews (by omega) (by omega) (growslice_fits (by omega) (by rw[hby];omega))
   rw[hr] at hr2
   have e:=(Result.ok.inj hr2).2
   have hgn:w.grownBy w' none:=by
    rw[e]
    exact⟨rfl,rfl,rfl,by simp,fun k hk _=>Below.heap_alloc w.drew _ k hk⟩
   exact World.ownsRow.kept hown0 hgn (.inr (fun e=>by cases e))
theorem aeu {w:World}{ops:Array Oper}{rest:List Oper}{o:Oper}{a:Act}{Q:Exit→Act→World→Prop}(hgd:o.guard=none)(s x:Operand)
  (ho:o.op=.call {callee:=.builtin .append,args:= #[s,x],argTypes:= #[90,90]})
  (base:Nat) (v:Value) (zs:List Int) (hs:a.eval s=v) (hown:IOwn w base v zs) (n:Int) (ad:Addr) (c:Nat) (hx:a.eval x=.slice (some ad) 1 c) (hcell:w.cell? ad=some (.int .i64 n))
  (hlen:zs.length≤1099511627776) (hbase:base≤w.heap.size)
  (h: ∀v' w',IOwn w' base v' (zs++[n])→IOwn w' base v zs→w.grownBy w' v.ownBlock→wpList Tryz.prog ops Q rest (a.put o.dst v') w'):
  wpList Tryz.prog ops Q (o::rest) a w:=by
 refine wpList_plain hgd fun K hK=> ?_
 obtain⟨v',w',hr,h2,h3,h4⟩:=append_keep w base o.type v zs n hown ad c hcell hlen hbase
 unfold Oper.wp execOp
 simp only[ho,resolve,invoke,builtin,Sem.run_bind,Sem.run_pure,Result.andThen_ok,List.map_toArray,List.map_cons,List.map_nil,hs,hx,hr]
 exact hK _ _ (h v' w' h2 h3 h4)
def Pc (n₀:Nat)(W:World)(b o:Nat)(p:List Int):Prop:=b<n₀∧ ∀j,j<p.length→W.cell? ⟨b,o+j,none⟩=some (.int .i64 (p[j]?.getD 0))
def Pcs (n₀:Nat)(W:World)(g off:Nat)(ps:List (List Int)):Prop:= ∀j (h:j<ps.length),∃b o c,W.cell? ⟨g,off+j,none⟩=some (.slice (some ⟨b,o,none⟩) ps[j].length c)∧ps[j].length≤c∧Pc n₀ W b o ps[j]
theorem Pc.same {n₀:Nat}{W W':World}{b o:Nat}{p:List Int}(h:Pc n₀ W b o p)(hb: ∀k,k<n₀→W'.heap[k]? =W.heap[k]?):Pc n₀ W' b o p:=⟨h.1,fun i hi=>(World.cell?_of_block (w:=W) (hb b h.1)).trans (h.2 i hi)⟩
theorem Pc.drop {n₀:Nat}{W:World}{b o:Nat}{p:List Int}(h:Pc n₀ W b o p){m o2:Nat}(ho:m<p.length→o2=o+m):Pc n₀ W b o2 (p.drop m):=by
 refine⟨h.1,fun j hj=> ?_⟩
 rw[List.length_drop] at hj
 rw[ho (by omega),List.getElem?_drop,←h.2 (m+j) (by omega)]
 congr 2
 omega
structure MWk (w₁:World)(bd T B g off cap:Nat)(ps:List (List Int))(W:World):Prop where
 below:Below w₁.heap.size w₁ W
 blk:Blk W B 239 #[.pointer (some ⟨bd,0,none⟩),.pointer (some ⟨T,0,none⟩),.slice (some ⟨g,off,none⟩) ps.length cap]
 cap:ps.length≤cap
 lowB:w₁.heap.size≤B
 lowg:w₁.heap.size≤g
 row: ∃cs,Blk W g 90 cs
 pcs:Pcs w₁.heap.size W g off ps
structure Mv (B g:Nat)(W W':World):Prop where
 size:W.heap.size≤W'.heap.size
 block: ∀k,k<W.heap.size→k≠B→k≠g→W'.heap[k]? =W.heap[k]?
theorem Mv.refl (B g:Nat)(W:World):Mv B g W W:=⟨Nat.le_refl _,fun _ _ _ _=>rfl⟩
theorem Mv.trans {B g:Nat}{a b c:World}(h:Mv B g a b)(k:Mv B g b c):Mv B g a c:=⟨Nat.le_trans h.size k.size,fun i hi h1 h2=>(k.block i (Nat.lt_of_lt_of_le hi h.size) h1 h2).trans (h.block i hi h1 h2)⟩
theorem Mv.below {B g:Nat}{W W':World}(h:Below W.heap.size W W'):Mv B g W W':=⟨h.size,fun k hk _ _=>h.block k hk⟩
section
variable {w₁ W W':World}{bd T B g off cap:Nat}{ps:List (List Int)}
theorem MWk.ne (h:MWk w₁ bd T B g off cap ps W):B≠g:=by
 obtain⟨cs,hc⟩:=h.row
 exact blk_ne h.blk hc (by decide)
theorem Pcs.same (h:Pcs w₁.heap.size W g off ps)(hg:W'.heap[g]? =W.heap[g]?)(hb: ∀k,k<w₁.heap.size→W'.heap[k]? =W.heap[k]?):Pcs w₁.heap.size W' g off ps:=fun j hj=>by
 obtain⟨b,o,c,h1,h2,h3⟩:=h j hj
 exact⟨b,o,c,(World.cell?_of_block (w:=W) hg).trans h1,h2,h3.same hb⟩
theorem MWk.go (h:MWk w₁ bd T B g off cap ps W)(hb:Below W.heap.size W W'):MWk w₁ bd T B g off cap ps W':=by
 obtain⟨cs,hc⟩:=h.row
 exact⟨h.below.trans (hb.mono h.below.size),h.blk.below hb h.blk.lt,h.cap,h.lowB,h.lowg,⟨cs,hc.below hb hc.lt⟩,h.pcs.same (hb.block g hc.lt) (fun k hk=>hb.block k (Nat.lt_of_lt_of_le hk h.below.size))⟩
theorem MWk.cells (h:MWk w₁ bd T B g off cap ps W):W.cell? ⟨B,0,none⟩=some (.pointer (some ⟨bd,0,none⟩))∧W.cell? ⟨B,1,none⟩=some (.pointer (some ⟨T,0,none⟩))∧W.cell? ⟨B,2,none⟩=some (.slice (some ⟨g,off,none⟩) ps.length cap):=⟨h.blk.cell 0,h.blk.cell 1,h.blk.cell 2⟩
theorem MWk.piece (h:MWk w₁ bd T B g off cap ps W){j:Nat}(hj:j<ps.length): ∃b o c,W.cell? ⟨g,off+j,none⟩=some (.slice (some ⟨b,o,none⟩) ps[j].length c)∧ps[j].length≤c∧Pc w₁.heap.size W b o ps[j]:=h.pcs j hj
theorem MWk.frozenB (h:MWk w₁ bd T B g off cap ps W)(j:Nat):W.frozen? ⟨B,j,none⟩=false:=h.blk.frozen j
theorem MWk.frozeng (h:MWk w₁ bd T B g off cap ps W)(j:Nat):W.frozen? ⟨g,j,none⟩=false:=by
 obtain⟨cs,hc⟩:=h.row
 exact hc.frozen j
theorem MWk.tail {p:List Int}(h:MWk w₁ bd T B g off cap (p::ps) W){o2:Nat}(ho:ps≠ []→o2=off+1):MWk w₁ bd T B g o2 (cap-1) ps (W.setCell ⟨B,2,none⟩ (.slice (some ⟨g,o2,none⟩) ps.length (cap-1)))∧Mv B g W (W.setCell ⟨B,2,none⟩ (.slice (some ⟨g,o2,none⟩) ps.length (cap-1))):=by
 obtain⟨cs,hc⟩:=h.row
 have hne:=h.ne
 have hcap:=h.cap
 have hsame: ∀k,k≠B→(W.setCell ⟨B,2,none⟩ (.slice (some ⟨g,o2,none⟩) ps.length (cap-1))).heap[k]? =W.heap[k]?:=fun k hk=>Below.heap_setCell W _ _ k hk
 refine⟨⟨h.below.setCell h.lowB _,by have:=h.blk.set 2 (.slice (some ⟨g,o2,none⟩) ps.length (cap-1));simpa using this,by simp at hcap;omega,h.lowB,h.lowg,⟨cs,(hsame g (Ne.symm hne)).trans hc⟩,?_⟩,⟨by simp[World.setCell],fun k _ h1 _=>hsame k h1⟩⟩
 refine Pcs.same (W:=W) (fun j hj=> ?_) (hsame g (Ne.symm hne)) (fun k hk=>hsame k (by have:=h.lowB;omega))
 obtain⟨b,o,c,h1,h2,h3⟩:=h.pcs (j+1) (by simp;omega)
 simp only[List.getElem_cons_succ] at h1 h2 h3
 have e:=ho (fun e=>by rw[e] at hj;simp at hj)
 exact⟨b,o,c,by rw[←h1,e];congr 2;omega,h2,h3⟩
theorem MWk.set (h:MWk w₁ bd T B g off cap ps W){i:Nat}{q:List Int}{b o c:Nat}(hi:i<ps.length)(hq:Pc w₁.heap.size W b o q)(hqc:q.length≤c):MWk w₁ bd T B g off cap (ps.set i q) (W.setCell ⟨g,off+i,none⟩ (.slice (some ⟨b,o,none⟩) q.length c))∧Mv B g W (W.setCell ⟨g,off+i,none⟩ (.slice (some ⟨b,o,none⟩) q.length c)):=by
 obtain⟨cs,hc⟩:=h.row
 have hne:=h.ne
 have hsame: ∀k,k≠g→(W.setCell ⟨g,off+i,none⟩ (.slice (some ⟨b,o,none⟩) q.length c)).heap[k]? =W.heap[k]?:=fun k hk=>Below.heap_setCell W _ _ k hk
 have hlow: ∀k,k<w₁.heap.size→(W.setCell ⟨g,off+i,none⟩ (.slice (some ⟨b,o,none⟩) q.length c)).heap[k]? =W.heap[k]?:=fun k hk=>hsame k (by have:=h.lowg;omega)
 have hset:=hc.set (off+i) (.slice (some ⟨b,o,none⟩) q.length c)
 have hcsz:off+i<cs.size:=by
  obtain⟨b',o',c',h1,_⟩:=h.pcs i hi
  rw[hc.cell] at h1
  exact(Array.getElem?_eq_some_iff.1 h1).1
 refine⟨⟨h.below.setCell h.lowg _,by rw[List.length_set];exact(hsame B hne).trans h.blk,by rw[List.length_set];exact h.cap,h.lowB,h.lowg,⟨_,hset⟩,fun j hj=> ?_⟩,⟨by simp[World.setCell],fun k _ _ h2=>hsame k h2⟩⟩
 rw[List.length_set] at hj
 by_cases e:i=j
 ·subst e
  refine⟨b,o,c,?_,by simpa using hqc,by simpa using hq.same hlow⟩
  rw[hset.cell]
  simp[hcsz]
 ·obtain⟨b',o',c',h1,h2,h3⟩:=h.pcs j hj
  rw[List.getElem_set_ne e]
  refine⟨b',o',c',?_,h2,h3.same hlow⟩
  rw[hset.cell,Array.getElem?_setIfInBounds_ne (by omega),←hc.cell]
  exact h1
end
def RowsAt (W:World)(base:Nat)(v:Value)(rs:List (List Int)):Prop:= ∃vs:List Value,W.ownsRow base 90 1 v rs.length vs∧ ∀i (h:i<rs.length),∃u,vs[i]? =some u∧IOwn W base u rs[i]
theorem RowsAt.nil (W:World)(base:Nat):RowsAt W base (.slice none 0 0) []:=⟨[],World.ownsRow_nil _ _ _ _,fun i h=>absurd h (by simp)⟩
theorem RowsAt.go {W W':World}{base:Nat}{v:Value}{rs:List (List Int)}(h:RowsAt W base v rs)(hb:Below W.heap.size W W'):RowsAt W' base v rs:=by
 obtain⟨vs,h1,h2⟩:=h
 refine⟨vs,aac h1 hb,fun i hi=> ?_⟩
 obtain⟨u,hu,hi⟩:=h2 i hi
 exact⟨u,hu,aac hi hb⟩
theorem RowsAt.val {W:World}{base:Nat}{v:Value}{rs:List (List Int)}(h:RowsAt W base v rs): ∃a c,v=.slice a rs.length c:=by
 obtain⟨vs,h1,_⟩:=h
 exact aba h1
def lenAt (B:Nat)(W:World):Nat:=match W.cell? ⟨B,2,none⟩ with
 | some (.slice _ n _)=>n
 | _=>0
theorem lenAt_of {B n c:Nat}{W:World}{a:Option Addr}(h:W.cell? ⟨B,2,none⟩=some (.slice a n c)):lenAt B W=n:=by unfold lenAt;rw[h]
set_option maxHeartbeats 2000000 in
theorem more_any {w₁:World}{bd T B g off cap:Nat}{ps:List (List Int)}{W:World}(hk:MWk w₁ bd T B g off cap ps W)(hl:ps.length≤4611686018427387904):
  Calls Tryz.prog 167 #[.pointer (some ⟨B,0,none⟩)] W fun e W'=> ∃b off' cap' ps',e=.returned (.bool b)∧MWk w₁ bd T B g off' cap' ps' W'∧Mv B g W W'∧(∃n,ps=List.replicate n []++ps')∧((b=true∧ ∃x t r,ps'=(x::t)::r)∨(b=false∧ps'=[])):=by
 go_enter Tryz.func167,Tryz.ntmps167
 go_wp2_with fail
 go_loopw [] (fun wr=> ∃off' cap' ps',MWk w₁ bd T B g off' cap' ps' wr∧Mv B g W wr∧ ∃n,ps=List.replicate n []++ps') (fun wr=>lenAt B wr)
 case atStart=>exact⟨off,cap,ps,hk,Mv.refl _ _ _,0,by simp⟩
 case round=>
  clear hk
  obtain⟨off',cap',ps',hk,hmv,n,hn⟩:=hrel
  have hl':ps'.length≤4611686018427387904:=by have:=congrArg List.length hn;simp at this;omega
  obtain⟨c0,c1,c2⟩:=hk.cells
  have hfr:=hk.frozenB 2
  have hcap:=hk.cap
  cases ps' with
  | nil=>
   simp only[List.length_nil] at c2
   go_wp2
   go_ret
   exact⟨false,off',cap',[],rfl,hk,hmv,⟨n,hn⟩,.inr ⟨rfl,rfl⟩⟩
  | cons p r=>
   obtain⟨pb,po,c,d0,d1,d2⟩:=hk.piece (j:=0) (by simp)
   simp only[List.getElem_cons_zero,Nat.add_zero] at d0 d1 d2
   simp only[List.length_cons] at c2 hl' hcap
   cases p with
   | nil=>
    have hms:=lenAt_of c2
    simp only[List.length_nil] at d0
    by_cases hc1:cap'=1
    ·obtain⟨ht,hm2⟩:=hk.tail (o2:=off') (fun h=>absurd (List.eq_nil_of_length_eq_zero (by omega)) h)
     have hms2:=lenAt_of ht.cells.2.2
     have e0:cap'-1=0:=by omega
     rw[e0] at ht hm2 hms2
     clear e0
     go_wp2
     go_roundw
     case rel=>exact⟨_,_,_,ht,hmv.trans hm2,n+1,by rw[hn];simp[List.replicate_succ']⟩
     case measure=>rw[hms2,hms];omega
    ·obtain⟨ht,hm2⟩:=hk.tail (o2:=off'+1) (fun _=>rfl)
     have hms2:=lenAt_of ht.cells.2.2
     go_wp2
     go_roundw
     case rel=>exact⟨_,_,_,ht,hmv.trans hm2,n+1,by rw[hn];simp[List.replicate_succ']⟩
     case measure=>rw[hms2,hms];omega
   | cons x t=>
    simp only[List.length_cons] at d0
    go_wp2
    go_ret
    exact⟨true,off',cap',(x::t)::r,rfl,hk,hmv,⟨n,hn⟩,.inl ⟨rfl,x,t,r,rfl⟩⟩
set_option maxHeartbeats 4000000 in
theorem drop_any {w₁:World}{bd T B g off cap:Nat}{ps:List (List Int)}{W:World}(hk:MWk w₁ bd T B g off cap ps W)(hl:ps.length≤4611686018427387904)(hpl: ∀p∈ps,p.length≤4611686018427387904)(n:Nat)(hn:n≤ps.flatten.length)(hn8:n≤8):
  Calls Tryz.prog 206 #[.pointer (some ⟨B,0,none⟩),.int .i64 n] W fun e W'=>e=.returned (.tuple #[])∧MWk w₁ bd T B g off cap (acb n ps) W'∧Mv B g W W':=by
 go_enter Tryz.func206,Tryz.ntmps206
 go_wp2_with fail
 go_loopw [1,4] (fun nv iv wr=> ∃(k i:Nat) (cur:List (List Int)),nv=.int .i64 k∧iv=.int .i64 i∧i≤cur.length∧k≤8∧k≤(cur.drop i).flatten.length∧Hid (cur.take i++acb k (cur.drop i)=acb n ps)∧Hid (cur.length=ps.length∧ ∀p∈cur,p.length≤4611686018427387904)∧MWk w₁ bd T B g off cap cur wr∧Mv B g W wr) (fun _ iv _=>ps.length-(intOf iv).toNat)
 case atStart=>exact⟨n,0,ps,rfl,rfl,by omega,hn8,by simpa using hn,by show _=_;simp,⟨rfl,hpl⟩,hk,Mv.refl _ _ _⟩
 case round=>
  clear hk
  obtain⟨k,i,cur,rfl,rfl,hi,hk8,hkf,HE,HC,hk,hmv⟩:=hrel
  by_cases hk0:0<k
  ·have hlt:i<cur.length:=by
    rcases Nat.lt_or_ge i cur.length with h | h
    ·exact h
    ·rw[List.drop_of_length_le h] at hkf;simp at hkf;omega
   obtain⟨c0,c1,c2⟩:=hk.cells
   obtain⟨pb,po,c,d0,d1,d2⟩:=hk.piece hlt
   have hfg:=hk.frozeng (off+i)
   have hcl:cur.length≤4611686018427387904:=by have:=HC.out.1;omega
   have hms:i<ps.length:=by have:=HC.out.1;omega
   have hdr:cur.drop i=cur[i]::cur.drop (i+1):=List.drop_eq_getElem_cons hlt
   have hp:=HC.out.2 _ (List.getElem_mem hlt)
   have HN:Hid (∀m,m=min k cur[i].length→k-m≤((cur.set i (cur[i].drop m)).drop (i+1)).flatten.length∧(cur.set i (cur[i].drop m)).take (i+1)++acb (k-m) ((cur.set i (cur[i].drop m)).drop (i+1))=acb n ps∧(cur.set i (cur[i].drop m)).length=ps.length∧ ∀p∈cur.set i (cur[i].drop m),p.length≤4611686018427387904):=fun m hm=>by
    have e1:(cur.set i (cur[i].drop m)).drop (i+1)=cur.drop (i+1):=List.drop_set_of_lt (Nat.lt_succ_self i)
    have e2:(cur.set i (cur[i].drop m)).take (i+1)=cur.take i++[cur[i].drop m]:=by
     rw[List.take_succ_eq_append_getElem (by simpa using hlt),List.take_set_of_le (Nat.le_refl i)]
     simp
    refine⟨?_,?_,by rw[List.length_set];exact HC.out.1,fun p hp=> ?_⟩
    ·rw[e1]
     rw[hdr,List.flatten_cons,List.length_append] at hkf
     omega
    ·rw[e1,e2,←HE.out,hdr,acb,hm]
     simp
    ·rcases List.mem_or_eq_of_mem_set hp with h | rfl
     ·exact HC.out.2 p h
     ·have:=HC.out.2 _ (List.getElem_mem hlt)
      rw[List.length_drop]
      omega
   have HW:Hid (∀(m o2:Nat),m≤cur[i].length→(m<cur[i].length→o2=po+m)→ ∃cur',cur'=cur.set i (cur[i].drop m)∧MWk w₁ bd T B g off cap cur' (wr.setCell ⟨g,off+i,none⟩ (.slice (some ⟨pb,o2,none⟩) (cur[i].length-m) (c-m))).drew∧Mv B g W (wr.setCell ⟨g,off+i,none⟩ (.slice (some ⟨pb,o2,none⟩) (cur[i].length-m) (c-m))).drew):=fun m o2 hm ho=>by
    obtain⟨y1,y2⟩:=hk.set (q:=cur[i].drop m) (b:=pb) (o:=o2) (c:=c-m) hlt (d2.drop ho) (by rw[List.length_drop];omega)
    rw[List.length_drop] at y1 y2
    exact⟨_,rfl,y1.go (Below.refl _ _).drew,(hmv.trans y2).trans (Mv.below (Below.refl _ _).drew)⟩
   clear hdr d2 HE hkf
   generalize cur[i].length=L at d0 d1 hp HN HW
   have hstep: ∀m:Nat,m=min k L→min (k:Int) (L:Int)=(m:Int):=fun m hm=>by omega
   have hgo: ∀m:Nat,m=min k L→ ∃o2,(if c=m then some (⟨pb,po,none⟩:Addr) else some ⟨pb,po+m,none⟩)=some ⟨pb,o2,none⟩∧(m<L→o2=po+m):=fun m hm=>by
    by_cases h:c=m
    ·exact⟨po,by rw[if_pos h],fun h2=>by omega⟩
    ·exact⟨po+m,by rw[if_neg h],fun _=>rfl⟩
   obtain⟨m,hm⟩: ∃m,m=min k L:=⟨_,rfl⟩
   have hm1:=hstep m hm
   obtain⟨o2,hif,ho2⟩:=hgo m hm
   obtain⟨x1,x2,x3,x4⟩:=HN.out m hm
   obtain⟨cur',hcur,y1,y2⟩:=HW.out m o2 (by omega) ho2
   rw[←hcur] at x1 x2 x3 x4
   have X2:Hid _:=x2
   have X34:Hid (cur'.length=ps.length∧ ∀p∈cur',p.length≤4611686018427387904):=⟨x3,x4⟩
   have hmk:m≤k∧m≤L:=by omega
   clear HN HW hstep hgo x2 x3 x4 hcur hm ho2
   go_upto_region 4 with fail
   go_region
   go_wp2_with fail
   go_roundw
   case rel=>exact⟨k-m,i+1,cur',by simp;omega,by simp,by have:=X34.out.1;omega,by omega,x1,X2,X34,y1,y2⟩
   case measure=>simp only[intOf];omega
  ·obtain rfl:k=0:=by omega
   have hE:=HE.out
   rw[dropPs_zero,List.take_append_drop] at hE
   subst hE
   go_wp2_with fail
   go_end0
   exact⟨rfl,hk,hmv⟩
end Go.Proofs.YtpfkoldfbecdlaaGreatDoor
