/- Contracts and lemmas (nothing is claimed here). -/
import Derived.Test.YtpfkoldfbecdlaaGreatDoorJ7
import Derived.Test.YtpfkoldfbecdlaaGreatDoorJ3
import Derived.Test.YtpfkoldfbecdlaaGreatDoorJ2
import Derived.Test.YtpfkoldfbecdlaaGreatDoorJ1
import Derived.Test.YtpfkoldfbecdlaaGreatDoorProg
namespace Go.Vf
theorem ptR_pointS {u:Nat}(hu:u≤1114111):ptR (aaj u)=some (u:Int):=by
 have hl6:(abp u).length≤6:=acr u 6 (by omega) (by omega)
 have hp:=upHex_pos u
 have hlt:=ads u _ (Nat.le_refl _)
 have hlen:(aaj u).length=(4-(abp u).length)+(abp u).length:=by rw[aay,ac8]
 unfold ptR hexN
 rw[if_pos,aay,agv]
 ·have hmod:u % 16^((4-(abp u).length)+(abp u).length)=u:=Nat.mod_eq_of_lt (Nat.lt_of_lt_of_le hlt (Nat.pow_le_pow_right (by omega) (by omega)))
  rw[hmod,Nat.zero_mul,Nat.zero_add]
  rfl
 ·by_cases h4:(abp u).length≤4
  ·exact .inl (by omega)
  ·refine .inr ⟨by omega,by omega,?_⟩
   rw[aay]
   obtain⟨k,hk⟩: ∃k,(abp u).length=k+1:=⟨(abp u).length-1,by omega⟩
   have hge:16^k≤u:=Nat.not_lt.1 fun h=>by have:=acr u k h (by omega);omega
   rw[hk] at hlt
   rw[show (4-(abp u).length)+(abp u).length=k+1 by omega,afs]
   intro e
   have e2:=upDig_zero _ (Nat.mod_lt _ (by omega)) (Option.some.inj e)
   have h1:1≤u/16^k:=(Nat.le_div_iff_mul_le (Nat.pow_pos (by omega))).2 (by omega)
   have h2:u/16^k<16:=(Nat.div_lt_iff_lt_mul (Nat.pow_pos (by omega))).2 (by rw[Nat.pow_succ] at hlt;omega)
   omega
theorem pointS_ptR {s:List UInt8}{p:Int}(h:ptR s=some p): ∃u:Nat,p=(u:Int)∧s=aaj u:=by
 unfold ptR hexN at h
 split at h
 ·rename_i hs
  cases hn:acs adb 16 s 0 with
  | none=>rw[hn] at h;cases h
  | some n=>
   rw[hn] at h
   have hpn:(n:Int)=p:=by simpa using h
   obtain⟨r,hr,hnr,hpad⟩:=pad_numB s 0 n hn
   have hrn:r=n:=by simpa using hnr.symm
   subst hrn
   refine⟨r,hpn.symm,?_⟩
   have hl:=acr r s.length hr (by omega)
   rw[aay]
   suffices hE:(4-(abp r).length)+(abp r).length=s.length by rw[hE];exact hpad
   rcases hs with h4 | ⟨h5,h6,hh⟩
   ·omega
   ·obtain⟨k,hk⟩: ∃k,s.length=k+1:=⟨s.length-1,by omega⟩
    have hgt: ¬(abp r).length≤k:=fun hle=>by
     have hlt:=ads r k hle
     rw[hpad,hk,afs,Nat.div_eq_of_lt hlt] at hh
     exact hh rfl
    omega
 ·cases h
theorem upDig_not2: ∀d,d<16→acy d≠46∧acy d≠91∧acy d≠42∧acy d≠93:=by decide
theorem pointS_mem2 {u:Nat}{b:UInt8}(h:b∈aaj u):b≠46∧b≠91∧b≠42∧b≠93:=by
 rw[aay] at h
 obtain⟨d,hd,rfl⟩:=padHex_mem _ _ b h
 exact upDig_not2 d hd
theorem pointS_four {u:Nat}(hu:u<65536):aaj u=aa8 4 u:=by
 have hl:=acr u 4 hu (by omega)
 rw[aay,show(4-(abp u).length)+(abp u).length=4 by omega]
theorem ab4 {u:Nat}(hu:u<65536):(aaj u).length=4:=by rw[pointS_four hu,ac8]
theorem afy {u:Nat}(hu:u<65536):afe (aaj u)=some (u:Int):=by
 unfold afe hexN
 rw[pointS_four hu,agv]
 show(if (aa8 4 u).length=4 then _ else _)=_
 rw[if_pos (ac8 4 u),Nat.mod_eq_of_lt hu,Nat.zero_mul,Nat.zero_add]
theorem afp {s:List UInt8}{n:Int}(h:afe s=some n): ∃u:Nat,u<65536∧n=(u:Int)∧s=aaj u:=by
 unfold afe hexN at h
 split at h
 ·cases h
 ·rename_i m hm
  split at h
  ·rename_i h4
   obtain⟨r,hr,hnr,hpad⟩:=pad_numB s 0 m hm
   have hrn:r=m:=by simpa using hnr.symm
   subst hrn
   rw[h4] at hr hpad
   refine⟨r,by omega,by simpa using h.symm,?_⟩
   rw[pointS_four (by omega)]
   exact hpad
  ·cases h
def elP (e:El):List UInt8:=91::(if e.va then 42 else 46)::(aaj e.pr.toNat++46::(aaj e.se.toNat++46::(aaj e.te.toNat++[93])))
def wtE (e:El):Prop:=wtB e.pr=true∧wtB e.se=true∧wtB e.te=true
theorem acw {n:Int}(h:wtB n=true): ∃u:Nat,n=(u:Int)∧u<65536:=by
 unfold wtB at h
 simp at h
 exact⟨n.toNat,by omega,by omega⟩
theorem elP_len {e:El}(h:wtE e):(elP e).length=17:=by
 obtain⟨h1,h2,h3⟩:=h
 obtain⟨a,ea,ha⟩:=acw h1
 obtain⟨b,eb,hb⟩:=acw h2
 obtain⟨c,ec,hc⟩:=acw h3
 unfold elP
 rw[ea,eb,ec]
 simp[ab4 ha,ab4 hb,ab4 hc]
theorem four {l:List UInt8}(h:l.length=4): ∃a b c d,l=[a,b,c,d]:=by
 match l,h with
 | [a,b,c,d],_=>exact⟨a,b,c,d,rfl⟩
theorem elR_elP {e:El}(h:wtE e):elR (elP e)=some e:=by
 obtain⟨h1,h2,h3⟩:=h
 obtain⟨a,ea,ha⟩:=acw h1
 obtain⟨b,eb,hb⟩:=acw h2
 obtain⟨c,ec,hc⟩:=acw h3
 have hA: ∀x∈aaj a,x≠46:=fun x hx=>(pointS_mem2 hx).1
 have hB: ∀x∈aaj b,x≠46:=fun x hx=>(pointS_mem2 hx).1
 have hC: ∀x∈aaj c,x≠46:=fun x hx=>(pointS_mem2 hx).1
 have hcut:aa7 46 (aaj a++46::(aaj b++46::aaj c))=[aaj a,aaj b,aaj c]:=by
  rw[aff 46 _ _ hA,aff 46 _ _ hB,agy 46 _ hC]
 obtain⟨a0,a1,a2,a3,pa⟩:=four (ab4 ha)
 obtain⟨b0,b1,b2,b3,pb⟩:=four (ab4 hb)
 obtain⟨c0,c1,c2,c3,pc⟩:=four (ab4 hc)
 have fa:=afy ha
 have fb:=afy hb
 have fc:=afy hc
 obtain⟨va,pr,se,te⟩:=e
 simp only at ea eb ec
 subst ea eb ec
 unfold elP
 simp only[Int.toNat_natCast]
 simp only[pa,pb,pc] at hcut fa fb fc⊢
 unfold elR
 rw[if_pos (by cases va<;>simp)]
 have:(List.drop 2 (91::(if va=true then 42 else 46)::([a0,a1,a2,a3]++46::([b0,b1,b2,b3]++46::([c0,c1,c2,c3]++[93]))))).take 14=[a0,a1,a2,a3]++46::([b0,b1,b2,b3]++46::[c0,c1,c2,c3]):=rfl
 rw[this,hcut]
 simp only[aeq,fa,fb,fc]
 cases va<;>simp
theorem elP_elR {s:List UInt8}{e:El}(hl:s.length=17)(h:elR s=some e):wtE e∧s=elP e:=by
 unfold elR at h
 split at h
 ·rename_i hc
  obtain⟨h0,h1,h16⟩:=hc
  have hsplit:s=s.take 2++((s.drop 2).take 14++s.drop 16):=by
   rw[show s.drop 16=(s.drop 2).drop 14 by rw[List.drop_drop],List.take_append_drop,List.take_append_drop]
  have ht2:s.take 2=[s[0]'(by omega),s[1]'(by omega)]:=by
   match s,hl with
   | a::b::r,_=>simp
  have hd:s.drop 16=[93]:=by
   rw[List.drop_eq_getElem_cons (by omega),List.drop_of_length_le (by omega)]
   rw[List.getElem?_eq_getElem (by omega)] at h16
   rw[Option.some.inj h16]
  rw[List.getElem?_eq_getElem (by omega)] at h0 h1
  have hj:=cut_join 46 ((s.drop 2).take 14)
  unfold aeq at h
  split at h
  ·rename_i va0 a b c hcut
   rw[hcut] at hj
   simp only at hj
   split at h
   ·cases h
   ·rename_i x hx
    split at h
    ·cases h
    ·rename_i y hy
     split at h
     ·cases h
     ·rename_i z hz
      obtain⟨u,hu,rfl,rfl⟩:=afp hx
      obtain⟨v,hv,rfl,rfl⟩:=afp hy
      obtain⟨t,ht,rfl,rfl⟩:=afp hz
      have he:=Option.some.inj h
      subst he
      refine⟨⟨by simp[wtB];omega,by simp[wtB];omega,by simp[wtB];omega⟩,?_⟩
      have e0:s[0]'(by omega)=91:=Option.some.inj h0
      have hsp:s=([91,s[1]'(by omega)]:List UInt8)++(aaj u++List.flatMap (fun x=>46::x) [aaj v,aaj t]++[93]):=by
       rw[←hj,←hd,←e0,←ht2]
       exact hsplit
      have hq:s[1]? =some (s[1]'(by omega)):=List.getElem?_eq_getElem (by omega)
      rw[hq]
      generalize s[1]'(by omega)=q at h1 hsp
      rw[hsp]
      unfold elP
      rcases h1 with h1 | h1
      ·have e1:q=46:=Option.some.inj h1
       rw[e1];simp
      ·have e1:q=42:=Option.some.inj h1
       rw[e1];simp
  ·cases h
 ·cases h
def elsP (l:List El):List UInt8:=l.flatMap elP
theorem ae1: ∀(l:List El),(∀e∈l,wtE e)→(elsP l).length=17*l.length:=by
 intro l
 induction l with
 | nil=>intro _;rfl
 | cons e r ih=>
  intro h
  have:=ih (fun x hx=>h x (by simp[hx]))
  simp only[elsP,List.flatMap_cons,List.length_append] at this⊢
  rw[this,elP_len (h e (by simp))]
  simp;omega
theorem elsL_elsP: ∀(l:List El) (n:Nat),n=l.length→(∀e∈l,wtE e)→elsL n (elsP l)=some l:=by
 intro l
 induction l with
 | nil=>intro n hn _;subst hn;rfl
 | cons e r ih=>
  intro n hn h
  subst hn
  have hel:=elP_len (h e (by simp))
  show elsL (r.length+1) (elP e++elsP r)=_
  rw[elsL,List.take_left' hel,List.drop_left' hel,elR_elP (h e (by simp))]
  simp only
  rw[ih _ rfl (fun x hx=>h x (by simp[hx]))]
theorem elsP_elsL: ∀(n:Nat) (s:List UInt8) (l:List El),s.length=17*n→elsL n s=some l→s=elsP l∧ ∀e∈l,wtE e:=by
 intro n
 induction n with
 | zero=>
  intro s l hs h
  simp[elsL] at h;subst h
  refine⟨List.eq_nil_of_length_eq_zero (by omega),by simp⟩
 | succ n ih=>
  intro s l hs h
  unfold elsL at h
  split at h
  ·cases h
  ·rename_i e he
   split at h
   ·cases h
   ·rename_i q hq
    have:=Option.some.inj h
    subst this
    obtain⟨h1,h2⟩:=ih _ _ (by rw[List.length_drop];omega) hq
    obtain⟨h3,h4⟩:=elP_elR (by rw[List.length_take];omega) he
    refine⟨?_,?_⟩
    ·show s=elP e++elsP q
     rw[←h1,←h4,List.take_append_drop]
    ·intro x hx
     rcases List.mem_cons.1 hx with rfl | hx
     ·exact h3
     ·exact h2 x hx
theorem elsR_elsP {l:List El}(h0:1≤l.length)(h1:l.length≤16)(h: ∀e∈l,wtE e):elsR (elsP l)=some l:=by
 have hl:=ae1 l h
 unfold elsR
 rw[if_neg]
 ·exact elsL_elsP l _ (by omega) h
 ·rintro(e | e | e)
  ·rw[e] at hl;simp at hl;omega
  ·omega
  ·omega
theorem elsP_elsR {s:List UInt8}{l:List El}(h:elsR s=some l):s=elsP l∧ ∀e∈l,wtE e:=by
 have h2:=(elsR_len h).2.2
 unfold elsR at h
 split at h
 ·cases h
 ·exact elsP_elsL _ _ _ (by omega) h
theorem cut1_plain (c:UInt8): ∀l:List UInt8,(∀x∈l,x≠c)→cut1 c l=(l,[]):=by
 intro l
 induction l with
 | nil=>intro _;rfl
 | cons b r ih=>
  intro h
  rw[cut1,if_neg (h b (by simp)),ih (fun x hx=>h x (by simp[hx]))]
theorem cut1_split (c:UInt8): ∀(a r:List UInt8),(∀x∈a,x≠c)→cut1 c (a++c::r)=(a,r):=by
 intro a
 induction a with
 | nil=>intro r _;simp[cut1]
 | cons b t ih=>
  intro r h
  rw[List.cons_append,cut1,if_neg (h b (by simp)),ih r (fun x hx=>h x (by simp[hx]))]
theorem cut1_join (c:UInt8): ∀l:List UInt8,(l=(cut1 c l).1∧(cut1 c l).2=[])∨l=(cut1 c l).1++c::(cut1 c l).2:=by
 intro l
 induction l with
 | nil=>exact .inl ⟨rfl,rfl⟩
 | cons b r ih=>
  by_cases h:b=c
  ·subst h
   rw[cut1,if_pos rfl]
   exact .inr rfl
  ·rw[cut1,if_neg h]
   rcases ih with ⟨h1,h2⟩ | h1
   ·exact .inl ⟨by simp[←h1],h2⟩
   ·exact .inr (by simp[←h1])
theorem cut1_len (c:UInt8)(l:List UInt8):(cut1 c l).1.length≤l.length∧(cut1 c l).2.length≤l.length:=by
 rcases cut1_join c l with ⟨h1,h2⟩ | h1
 ·exact⟨by rw[←h1];exact Nat.le_refl _,by rw[h2];simp⟩
 ·have:=congrArg List.length h1
  simp at this
  omega
theorem ptsR_map: ∀(us:List Nat),(∀q∈us,q≤1114111)→ptsR (us.map aaj)=some (us.map fun q:Nat=>(q:Int)):=by
 intro us
 induction us with
 | nil=>intro _;rfl
 | cons a r ih=>
  intro h
  rw[List.map_cons,ptsR,ptR_pointS (h a (by simp))]
  simp only
  rw[ih (fun q hq=>h q (by simp[hq]))]
  rfl
theorem ptsR_line: ∀(C:List (List UInt8)) (ps:List Int),ptsR C=some ps→C=(ps.map Int.toNat).map aaj∧C.length=ps.length:=by
 intro C
 induction C with
 | nil=>intro ps h;simp[ptsR] at h;subst h;exact⟨rfl,rfl⟩
 | cons a r ih=>
  intro ps h
  unfold ptsR at h
  split at h
  ·cases h
  ·rename_i p hp
   split at h
   ·cases h
   ·rename_i q hq
    simp at h;subst h
    obtain⟨u,rfl,hs⟩:=pointS_ptR hp
    obtain⟨h1,h2⟩:=ih _ hq
    refine⟨?_,by simp[h2]⟩
    rw[hs]
    simp only[List.map_cons,Int.toNat_natCast]
    rw[←h1]
def rowP (p:List Int):List UInt8:=joinS (p.map Int.toNat)
theorem ad0 {n:Int}(h:acf n=true): ∃u:Nat,n=(u:Int)∧u≤1114111:=by
 unfold acf at h
 simp at h
 exact⟨n.toNat,by omega,by omega⟩
theorem rowB_nat {p:List Int}(h:aec p=true): ∃us:List Nat,p=us.map (fun q:Nat=>(q:Int))∧us≠ []∧us.length≤8∧ ∀q∈us,q≤1114111:=by
 unfold aec at h
 simp only[Bool.and_eq_true,decide_eq_true_eq,List.all_eq_true] at h
 obtain⟨⟨h1,h2⟩,h3⟩:=h
 refine⟨p.map Int.toNat,?_,?_,by simpa using h2,?_⟩
 ·rw[List.map_map]
  conv=>lhs;rw[←List.map_id p]
  apply List.map_congr_left
  intro x hx
  obtain⟨u,rfl,_⟩:=ad0 (h3 x hx)
  simp
 ·intro e
  have:=congrArg List.length e
  simp at this
  subst this
  simp at h1
 ·intro q hq
  obtain⟨x,hx,rfl⟩:=List.mem_map.1 hq
  obtain⟨u,rfl,h⟩:=ad0 (h3 x hx)
  simpa using h
theorem toNat_map (us:List Nat):(us.map (fun q:Nat=>(q:Int))).map Int.toNat=us:=by
 rw[List.map_map]
 conv=>rhs;rw[←List.map_id us]
 apply List.map_congr_left
 intro x _
 simp
theorem rowP_rowR {s:List UInt8}{p:List Int}(h:rowR s=some p):s=rowP p:=by
 have hb:=rowR_ok h
 obtain⟨us,rfl,hne,_,hq⟩:=rowB_nat hb
 unfold rowR at h
 split at h
 ·cases h
 ·rename_i l hl
  split at h
  ·have:=Option.some.inj h
   subst this
   obtain⟨h1,_⟩:=ptsR_line _ _ hl
   rw[toNat_map] at h1
   unfold rowP
   rw[toNat_map]
   have hj:=cut_join 32 s
   rw[h1] at hj
   cases us with
   | nil=>exact absurd rfl hne
   | cons a r=>
    rw[joinS_flat]
    simp only[List.map_cons] at hj
    rw[hj,List.flatMap_map]
  ·cases h
theorem rowP_mem {p:List Int}: ∀b∈rowP p,b≠10∧b≠59:=joinS_mem _
def entP (x:Ent):List UInt8:=rowP x.1++59::elsP x.2
theorem entP_entR {s:List UInt8}{x:Ent}(h:ad9 s=some x):s=entP x:=by
 unfold ad9 at h
 split at h
 ·cases h
 ·rename_i p hp
  split at h
  ·cases h
  ·rename_i l hl
   have:=Option.some.inj h
   subst this
   unfold entP
   have h1:=rowP_rowR hp
   obtain⟨h2,_⟩:=elsP_elsR hl
   have h3:=(elsR_len hl).2.2
   have h4:=(elsR_len hl).1
   rcases cut1_join 59 s with ⟨_,e⟩ | e
   ·rw[e] at h3;simp at h3;omega
   ·simp only
    rw[←h1,←h2]
    exact e
end Go.Vf
namespace Go.Proofs.YtpfkoldfbecdlaaGreatDoor
open Go.RowKit Go.Vf Go.Maps
theorem aca {w w':World}{b1:Nat}{e1:TypeId}{s1 k1:Nat}{v1:Value}{x1:List Value}(h1:w.ownsRow b1 e1 s1 v1 k1 x1)(hk: ∀g,v1.ownBlock=some g→w'.heap[g]? =w.heap[g]?):w'.ownsRow b1 e1 s1 v1 k1 x1:=by
 refine⟨h1.1,h1.2.imp id fun⟨g,cap,cur,q1,q2,q3,q4⟩=>⟨g,cap,cur,q1,q2,?_,q4⟩⟩
 exact(hk g (by rw[q1];rfl)).trans q3
def Apt (u v:Value):Prop:= ∀g,u.ownBlock=some g→v.ownBlock≠some g
theorem Apt.symm {u v:Value}(h:Apt u v):Apt v u:=fun g hv hu=>h g hu hv
theorem acu {w:World}{b1 b2:Nat}{e1 e2:TypeId}{s1 s2 k1 k2:Nat}{v1 v2:Value}{x1 x2:List Value}(h1:w.ownsRow b1 e1 s1 v1 k1 x1)(h2:w.ownsRow b2 e2 s2 v2 k2 x2)(ht:e1≠e2):Apt v1 v2:=fun g hg1 hg2=>by
 obtain⟨_,c1,f1,q1⟩:=aah h1 hg1
 obtain⟨_,c2,f2,q2⟩:=aah h2 hg2
 rw[q1] at q2
 simp only[Option.some.injEq,Obj.cells.injEq] at q2
 exact ht q2.2.1
theorem ag6 {w:World}{base:Nat}{e:TypeId}{size k:Nat}{v:Value}{xs:List Value}(h:w.ownsRow base e size v k xs){g:Nat}(hg:v.ownBlock=some g):g<w.heap.size:=by
 obtain⟨_,c,f,q⟩:=aah h hg
 exact(Array.getElem?_eq_some_iff.1 q).1
theorem apt_new {w:World}{b1 b2:Nat}{e1 e2:TypeId}{s1 s2 k1 k2:Nat}{v1 v2:Value}{x1 x2:List Value}{w2:World}(h1:w.ownsRow b1 e1 s1 v1 k1 x1)(h2:w2.ownsRow b2 e2 s2 v2 k2 x2)(hb:w.heap.size≤b2):Apt v1 v2:=fun g hg1 hg2=>by
 have:=ag6 h1 hg1
 have:=(aah h2 hg2).1
 omega
theorem aa0 {w w':World}{b:Nat}{e:TypeId}{s k:Nat}{v u:Value}{xs:List Value}(h:w.ownsRow b e s v k xs)(hg:w.grownBy w' u.ownBlock)(ha:Apt u v):w'.ownsRow b e s v k xs:=
 aca h (fun g hv=>hg.block g (ag6 h hv) (fun e=>ha g e.symm hv))
theorem ad3 {w w':World}{b:Nat}{e:TypeId}{s k B:Nat}{t:TypeId}{u:Value}{xs:List Value}{cs:Array Value}(hb:Blk w B t cs)(hu:w.ownsRow b e s u k xs)(ht:e≠t)(hg:w.grownBy w' u.ownBlock):Blk w' B t cs:=by
 refine(hg.block B hb.lt (fun eq=> ?_)).trans hb
 obtain⟨_,c,f,q⟩:=aah hu eq.symm
 have:=q.symm.trans hb
 simp only[Option.some.injEq,Obj.cells.injEq] at this
 exact ht this.2.1
theorem own_lt {w:World}{b1:Nat}{e1:TypeId}{s1 k1:Nat}{v1:Value}{x1:List Value}(h1:w.ownsRow b1 e1 s1 v1 k1 x1): ∀g,v1.ownBlock=some g→g<w.heap.size:=fun g hg=>by
 obtain⟨_,cs,f,q⟩:=aah h1 hg
 exact(Array.getElem?_eq_some_iff.1 q).1
end Go.Proofs.YtpfkoldfbecdlaaGreatDoor
namespace Go.Proofs.YtpfkoldfbecdlaaGreatDoor
open Go.RowKit Go.Vf
theorem isPoint_any (n:Int)(w:World):Calls Tryz.prog 113 #[.int .i64 n] w fun e w'=>e=.returned (.bool (acf n))∧w=w':=by
 by_cases h1:0≤n
 ·by_cases h2:n≤1114111
  ·by_cases h3:n<55296
   ·go_enter Tryz.func113,Tryz.ntmps113
    go_wp2
    go_ret
    exact⟨by simp[acf,h1,h2,h3],rfl⟩
   ·by_cases h4:57343<n
    ·go_enter Tryz.func113,Tryz.ntmps113
     go_wp2
     go_ret
     exact⟨by simp[acf,h1,h2,h4],rfl⟩
    ·go_enter Tryz.func113,Tryz.ntmps113
     go_wp2
     go_ret
     exact⟨by simp[acf];omega,rfl⟩
  ·go_enter Tryz.func113,Tryz.ntmps113
   go_wp2
   go_ret
   exact⟨by simp[acf];omega,rfl⟩
 ·go_enter Tryz.func113,Tryz.ntmps113
  go_wp2
  go_ret
  exact⟨by simp[acf];omega,rfl⟩
theorem ada (n:Int)(w:World):Calls Tryz.prog 160 #[.int .i64 n] w fun e w'=>e=.returned (.bool (wtB n))∧w=w':=by
 by_cases h1:0≤n
 ·by_cases h2:n≤65535
  ·go_enter Tryz.func160,Tryz.ntmps160
   go_wp2
   go_ret
   exact⟨by simp[wtB,h1,h2],rfl⟩
  ·go_enter Tryz.func160,Tryz.ntmps160
   go_wp2
   go_ret
   exact⟨by simp[wtB];omega,rfl⟩
 ·go_enter Tryz.func160,Tryz.ntmps160
  go_wp2
  go_ret
  exact⟨by simp[wtB];omega,rfl⟩
def af9 (n:Int):Int:=if (19968≤n∧n≤40959)∨(63744≤n∧n≤64255) then 64320 else if (13312≤n∧n≤19903)∨(131072≤n∧n≤262143) then 64384 else 64448
set_option maxHeartbeats 1000000 in
theorem base_any (n:Int)(w:World):Calls Tryz.prog 169 #[.int .i64 n] w fun e w'=>e=.returned (.int .i64 (af9 n))∧w=w':=by
 by_cases c1:19968≤n∧n≤40959
 ·obtain⟨h1,h2⟩:=c1
  go_enter Tryz.func169,Tryz.ntmps169
  go_wp2
  go_ret
  exact⟨by simp[af9,h1,h2],rfl⟩
 ·by_cases c2:63744≤n∧n≤64255
  ·obtain⟨h1,h2⟩:=c2
   have h3: ¬n≤40959:=by omega
   have h4:19968≤n:=by omega
   go_enter Tryz.func169,Tryz.ntmps169
   go_wp2
   go_ret
   exact⟨by simp[af9,h1,h2],rfl⟩
  ·by_cases c3:13312≤n∧n≤19903
   ·obtain⟨h1,h2⟩:=c3
    have h3: ¬19968≤n:=by omega
    have h4: ¬63744≤n:=by omega
    go_enter Tryz.func169,Tryz.ntmps169
    go_wp2
    go_ret
    exact⟨by simp[af9,h1,h2];omega,rfl⟩
   ·by_cases c4:131072≤n∧n≤262143
    ·obtain⟨h1,h2⟩:=c4
     have h3:19968≤n:=by omega
     have h4:63744≤n:=by omega
     have h5: ¬n≤40959:=by omega
     have h6: ¬n≤64255:=by omega
     have h7:13312≤n:=by omega
     have h8: ¬n≤19903:=by omega
     go_enter Tryz.func169,Tryz.ntmps169
     go_wp2
     go_ret
     exact⟨by simp[af9,h1,h2,h5,h6],rfl⟩
    ·have e:af9 n=64448:=by unfold af9;rw[if_neg (by omega),if_neg (by omega)]
     have E:Hid (af9 n=64448):=e
     clear e
     by_cases h1:19968≤n<;>by_cases h2:63744≤n<;>by_cases h3:13312≤n<;>by_cases h4:131072≤n<;>try (exfalso;omega)
     all_goals
      first
      | have h5: ¬n≤40959:=by omega
      | skip
      first
      | have h6: ¬n≤64255:=by omega
      | skip
      first
      | have h7: ¬n≤19903:=by omega
      | skip
      first
      | have h8: ¬n≤262143:=by omega
      | skip
      clear c1 c2 c3 c4
      go_enter Tryz.func169,Tryz.ntmps169
      go_wp2
      go_ret
      exact⟨by rw[E.out];rfl,rfl⟩
def digV (c:UInt8):Int:=match adb c with
 | some d=>(d:Int)
 | none=> -1
theorem index_all:((List.range 256).all fun n=>Lib.indexByte [48,49,50,51,52,53,54,55,56,57,65,66,67,68,69,70] (UInt8.ofNat n)==digV (UInt8.ofNat n))=true:=by kernel_rfl
theorem index_dig (c:UInt8):Lib.indexByte [48,49,50,51,52,53,54,55,56,57,65,66,67,68,69,70] c=digV c:=by
 have:=List.all_eq_true.1 index_all c.toNat (List.mem_range.2 c.toNat_lt)
 rw[show UInt8.ofNat c.toNat=c by simp] at this
 exact beq_iff_eq.1 this
theorem dig_call (c:UInt8)(w:World):Calls Tryz.prog 243 #[.string ⟨#[48,49,50,51,52,53,54,55,56,57,65,66,67,68,69,70]⟩,.int .u8 (c.toNat:Int)] w fun e w'=>e=.returned (.int .i64 (digV c))∧w=w':=by
 refine(Tryz.strings_IndexByte ⟨#[48,49,50,51,52,53,54,55,56,57,65,66,67,68,69,70]⟩ (c.toNat:Int) w).mono ?_
 rintro e w' ⟨rfl,rfl⟩
 refine⟨?_,rfl⟩
 rw[show ((c.toNat:Int).toNat.toUInt8)=c by simp,show(⟨#[48,49,50,51,52,53,54,55,56,57,65,66,67,68,69,70]⟩:ByteArray).data.toList=[48,49,50,51,52,53,54,55,56,57,65,66,67,68,69,70] from rfl,index_dig]
def gotH:Option Nat→Value
 | some n=>.tuple #[.int .i64 (n:Int),.bool true]
 | none=>.tuple #[.int .i64 0,.bool false]
set_option maxHeartbeats 1000000 in
theorem agi (s:ByteArray)(w:World)(hs:s.size≤14):
  Calls Tryz.prog 221 #[.string s] w fun e w'=>e=.returned (gotH (hexN s.data.toList))∧w=w':=by
 have hsl:s.data.toList.length=s.size:=(Lib.size_eq s).symm
 generalize hR:hexN s.data.toList=R
 have HR:Hid (hexN s.data.toList=R):=hR
 clear hR
 go_enter Tryz.func221,Tryz.ntmps221
 go_wp2
 go_loopw [9,4] (fun i n wr=> ∃(k m:Nat),i=.int .i64 (k:Int)∧n=.int .i64 (m:Int)∧k≤s.size∧m<16^k∧Hid (acs adb 16 (s.data.toList.drop k) m=R)∧wr=w) (fun i _ _=>s.size-(intOf i).toNat)
 case atStart=>exact⟨0,0,rfl,rfl,by omega,by simp,HR,rfl⟩
 case round=>
  obtain⟨k,m,rfl,rfl,hk,hm,HX,rfl⟩:=hrel
  have hp:16^k≤16^14:=Nat.pow_le_pow_right (by omega) (by omega)
  have hm14:m<16^14:=by omega
  by_cases hlt:k<s.size
  ·have hd:=drop_at s k hlt
   have hc:=dig_call s[k] wr
   cases hv:adb s[k] with
   | none=>
    have hdv:digV s[k]= -1:=by unfold digV;rw[hv]
    rw[hdv] at hc
    have hRn:Hid (R=none):=by
     show _=_
     rw[←HX.out,hd,acs,hv]
    clear hd hdv HX
    go_wp2_with fail
    refine hc.mono ?_
    rintro e w1 ⟨rfl,rfl⟩
    go_wp2
    go_ret2
    exact⟨by rw[hRn.out];rfl,rfl⟩
   | some d=>
    have hd16:=hexV_lt hv
    have hdv:digV s[k]=(d:Int):=by unfold digV;rw[hv]
    rw[hdv] at hc
    have HX2:Hid (acs adb 16 (s.data.toList.drop (k+1)) (m*16+d)=R):=by
     show _=_
     rw[←HX.out,hd,acs,hv]
    clear hd hdv HX
    go_wp2_with fail
    refine hc.mono ?_
    rintro e w1 ⟨rfl,rfl⟩
    go_wp2
    go_roundw
    case rel=>exact⟨k+1,m*16+d,by simp,by simp,by omega,by rw[Nat.pow_succ];omega,HX2,trivial⟩
    case measure=>simp only[intOf];omega
  ·have hRn:Hid (R=some m):=by
    show _=_
    rw[←HX.out,af0 s k (by omega)];rfl
   clear HX
   go_wp2
   go_ret2
   exact⟨by rw[hRn.out];rfl,rfl⟩
def gotP:Option Int→Value
 | some n=>.tuple #[.int .i64 n,.bool true]
 | none=>.tuple #[.int .i64 0,.bool false]
theorem gotH_P (o:Option Nat):gotH o=gotP (o.map fun n=>(n:Int)):=by cases o<;>rfl
theorem byte_eq {a b:UInt8}(h:a=b):((a.toNat:Int)==(b.toNat:Int))=true:=by subst h;simp
theorem byte_ne {a b:UInt8}(h:a≠b):((a.toNat:Int)==(b.toNat:Int))=false:=by
 rw[beq_eq_false_iff_ne]
 intro e
 exact h (UInt8.toNat_inj.1 (by omega))
set_option maxHeartbeats 1000000 in
theorem readPoint_any6 (s:ByteArray)(w:World)(hs:s.size≤17179869184):
  Calls Tryz.prog 181 #[.string s] w fun e w'=>e=.returned (gotP (ptR s.data.toList))∧w=w':=by
 have hsl:s.data.toList.length=s.size:=(Lib.size_eq s).symm
 by_cases hlen:s.size=4∨(4<s.size∧s.size≤6∧s.data.toList.head?≠some 48)
 ·have e1:gotP (ptR s.data.toList)=gotH (hexN s.data.toList):=by
   rw[gotH_P];unfold ptR;rw[hsl,if_pos hlen]
  rw[e1]
  clear e1
  have hr:=agi s w (by omega)
  generalize hexN s.data.toList=R at hr⊢
  rcases hlen with h4 | ⟨h5,h6,h7⟩
  ·have a1: ¬s.size<4:=by omega
   have a2: ¬6<s.size:=by omega
   have a3: ¬4<s.size:=by omega
   clear h4
   go_enter Tryz.func181,Tryz.ntmps181
   go_wp2_with fail
   refine hr.mono ?_
   rintro e w1 ⟨rfl,rfl⟩
   cases R with
   | none=>simp only[gotH];go_wp2;go_ret2;exact⟨rfl,rfl⟩
   | some n=>simp only[gotH];go_wp2;go_ret2;exact⟨rfl,rfl⟩
  ·have a1: ¬s.size<4:=by omega
   have a2: ¬6<s.size:=by omega
   have hz:s[0]'(by omega)≠48:=fun e=>h7 (by rw[aep s (by omega),e])
   have hb:(((s[0]'(by omega)).toNat:Int)==48)=false:=byte_ne (b:=48) hz
   clear h7 hz
   go_enter Tryz.func181,Tryz.ntmps181
   go_wp2_with fail
   refine hr.mono ?_
   rintro e w1 ⟨rfl,rfl⟩
   cases R with
   | none=>simp only[gotH];go_wp2;go_ret2;exact⟨rfl,rfl⟩
   | some n=>simp only[gotH];go_wp2;go_ret2;exact⟨rfl,rfl⟩
 ·have e1:ptR s.data.toList=none:=by unfold ptR;rw[hsl,if_neg hlen]
  rw[e1]
  clear e1
  by_cases a1:s.size<4
  ·clear hlen
   go_enter Tryz.func181,Tryz.ntmps181
   go_wp2
   go_ret2
   exact⟨rfl,rfl⟩
  ·by_cases a2:6<s.size
   ·clear hlen
    go_enter Tryz.func181,Tryz.ntmps181
    go_wp2
    go_ret2
    exact⟨rfl,rfl⟩
   ·have a3:4<s.size:=by omega
    have hz:s[0]'(by omega)=48:=by
     have h0:=aep s (by omega)
     rcases Decidable.em (s[0]'(by omega)=48) with h | h
     ·exact h
     ·exact absurd (.inr ⟨a3,by omega,fun e=>h (Option.some.inj (h0.symm.trans e))⟩) hlen
    have hb:(((s[0]'(by omega)).toNat:Int)==48)=true:=byte_eq (b:=48) hz
    clear hz hlen
    go_enter Tryz.func181,Tryz.ntmps181
    go_wp2
    go_ret2
    exact⟨rfl,rfl⟩
end Go.Proofs.YtpfkoldfbecdlaaGreatDoor
namespace Go.Proofs.YtpfkoldfbecdlaaGreatDoor
open Go.RowKit Go.Vf Go.Maps
def elV (e:El):List Value:=[.bool e.va,.int .i64 e.pr,.int .i64 e.se,.int .i64 e.te]
abbrev elA (e:El):Value:=.agg #[.bool e.va,.int .i64 e.pr,.int .i64 e.se,.int .i64 e.te]
def elsV (l:List El):List Value:=l.flatMap elV
theorem afz (l:List El):(elsV l).length=l.length*4:=by
 induction l with
 | nil=>rfl
 | cons e r ih=>simp only[elsV,List.flatMap_cons,List.length_append] at ih⊢;rw[ih];simp[elV];omega
theorem elsV_append (a b:List El):elsV (a++b)=elsV a++elsV b:=by simp[elsV]
def Els (n₀:Nat)(W:World)(v:Value)(l:List El):Prop:=
 (∃a cap,v=.slice a 0 cap∧l=[])∨ ∃b off cap,v=.slice (some ⟨b,off,none⟩) l.length cap∧b<n₀∧ ∀j (hj:j<l.length),
  W.cell? ⟨b,off+j*4,none⟩=some (.bool l[j].va)∧W.cell? ⟨b,off+j*4+1,none⟩=some (.int .i64 l[j].pr)∧W.cell? ⟨b,off+j*4+2,none⟩=some (.int .i64 l[j].se)∧W.cell? ⟨b,off+j*4+3,none⟩=some (.int .i64 l[j].te)
theorem Els.val {n₀:Nat}{W:World}{v:Value}{l:List El}(h:Els n₀ W v l): ∃a cap,v=.slice a l.length cap:=by
 rcases h with ⟨a,cap,rfl,rfl⟩ | ⟨b,off,cap,rfl,_⟩
 ·exact⟨a,cap,rfl⟩
 ·exact⟨_,cap,rfl⟩
theorem Els.below {n₀ n:Nat}{A B:World}{v:Value}{l:List El}(h:Els n₀ A v l)(hb:Below n A B)(hn:n₀≤n):Els n₀ B v l:=by
 rcases h with h | ⟨b,off,cap,e,hlt,hc⟩
 ·exact .inl h
 ·refine .inr ⟨b,off,cap,e,hlt,fun j hj=> ?_⟩
  obtain⟨h0,h1,h2,h3⟩:=hc j hj
  have q: ∀k,B.cell? ⟨b,k,none⟩=A.cell? ⟨b,k,none⟩:=fun k=>hb.cell (p:=⟨b,k,none⟩) (show b<n by omega)
  exact⟨(q _).trans h0,(q _).trans h1,(q _).trans h2,(q _).trans h3⟩
theorem Els.mono {n₀ n:Nat}{A:World}{v:Value}{l:List El}(hn:n₀≤n)(h:Els n₀ A v l):Els n A v l:=by
 rcases h with h | ⟨b,off,cap,e,hlt,hc⟩
 ·exact .inl h
 ·exact .inr ⟨b,off,cap,e,Nat.lt_of_lt_of_le hlt hn,hc⟩
def EOwn (w:World)(base:Nat)(v:Value)(l:List El):Prop:=w.ownsRow base 133 4 v l.length (elsV l)
theorem EOwn.nil (w:World)(base:Nat):EOwn w base (.slice none 0 0) []:=World.ownsRow_nil _ _ _ _
theorem elsV_at: ∀(l:List El) (j:Nat) (hj:j<l.length),(elsV l)[j*4]? =some (.bool l[j].va)∧(elsV l)[j*4+1]? =some (.int .i64 l[j].pr)∧(elsV l)[j*4+2]? =some (.int .i64 l[j].se)∧(elsV l)[j*4+3]? =some (.int .i64 l[j].te):=by
 intro l
 induction l with
 | nil=>intro j hj;simp at hj
 | cons e r ih=>
  intro j hj
  have hc:elsV (e::r)=[Value.bool e.va,.int .i64 e.pr,.int .i64 e.se,.int .i64 e.te]++elsV r:=rfl
  cases j with
  | zero=>rw[hc];simp
  | succ j=>
   have hj':j<r.length:=by simpa using hj
   obtain⟨h0,h1,h2,h3⟩:=ih j hj'
   have q: ∀k,(elsV (e::r))[4+k]? =(elsV r)[k]?:=fun k=>by
    rw[hc,List.getElem?_append_right (by simp)]
    congr 1
    simp
   simp only[List.getElem_cons_succ]
   refine⟨?_,?_,?_,?_⟩
   ·rw[←h0,←q];congr 1;omega
   ·rw[←h1,←q];congr 1;omega
   ·rw[←h2,←q];congr 1;omega
   ·rw[←h3,←q];congr 1;omega
theorem EOwn.form {w:World}{base:Nat}{v:Value}{l:List El}(h:EOwn w base v l):(v=.slice none 0 0∧l=[])∨ ∃g cap,v=.slice (some ⟨g,0,none⟩) l.length cap∧base≤g∧g<w.heap.size∧(∀j x,(elsV l)[j]? =some x→w.cell? ⟨g,j,none⟩=some x)∧(∀j,w.frozen? ⟨g,j,none⟩=false):=by
 obtain⟨h1,h2⟩:=h
 rcases h2 with ⟨rfl,hn⟩ | ⟨g,cap,cur,rfl,hb,hh,hc1,hc2,hc3,hc4⟩
 ·exact .inl ⟨rfl,List.eq_nil_of_length_eq_zero hn⟩
 ·refine .inr ⟨g,cap,rfl,hb,(Array.getElem?_eq_some_iff.1 hh).1,fun j x hx=> ?_,fun j=> ?_⟩
  ·have hj:j<(elsV l).length:=(List.getElem?_eq_some_iff.1 hx).1
   rw[afz] at hj
   rw[←hc4,List.getElem?_take_of_lt (by omega)] at hx
   simp only[World.cell?,hh]
   simpa using hx
  ·simp[World.frozen?,hh]
theorem EOwn.els {w:World}{base:Nat}{v:Value}{l:List El}(h:EOwn w base v l):Els w.heap.size w v l:=by
 rcases h.form with h | ⟨g,cap,rfl,hb,hlt,hc,_⟩
 ·exact .inl ⟨none,0,h⟩
 ·refine .inr ⟨g,0,cap,rfl,hlt,fun j hj=> ?_⟩
  obtain⟨h0,h1,h2,h3⟩:=elsV_at l j hj
  rw[Nat.zero_add]
  exact⟨hc _ _ h0,hc _ _ h1,hc _ _ h2,hc _ _ h3⟩
theorem Els.at {n₀:Nat}{w:World}{a:Option Addr}{k cap:Nat}{l:List El}(h:Els n₀ w (.slice a k cap) l){j:Nat}(hj:j<l.length): ∃b off,a=some ⟨b,off,none⟩∧
  w.cell? ⟨b,off+j*4,none⟩=some (.bool l[j].va)∧w.cell? ⟨b,off+j*4+1,none⟩=some (.int .i64 l[j].pr)∧w.cell? ⟨b,off+j*4+2,none⟩=some (.int .i64 l[j].se)∧w.cell? ⟨b,off+j*4+3,none⟩=some (.int .i64 l[j].te):=by
 rcases h with ⟨a',cap',e,rfl⟩ | ⟨b,off,cap',e,hlt,hc⟩
 ·simp at hj
 ·cases e
  exact⟨b,off,rfl,hc j hj⟩
set_option maxHeartbeats 1000000 in
theorem isRight_any (e:El)(w:World):Calls Tryz.prog 114 #[elA e] w fun r w'=>r=.returned (.bool (aai e))∧Below w.heap.size w w':=by
 obtain⟨va,pr,se,te⟩:=e
 have hb0:=(Below.refl w.heap.size w).alloc (Nat.le_refl _) (.cells #[.bool va,.int .i64 pr,.int .i64 se,.int .i64 te] 133)
 cases h1:wtB pr with
 | false=>
  have hR:aai ⟨va,pr,se,te⟩=false:=by simp[aai,h1]
  rw[hR]
  have c1:=fun w=>ada pr w
  rw[h1] at c1
  clear hR h1
  go_enter Tryz.func114,Tryz.ntmps114
  go_wp2_with fail
  refine(c1 _).mono ?_
  rintro _ w1 ⟨rfl,rfl⟩
  go_wp2
  go_ret
  exact⟨rfl,hb0⟩
 | true=>
  have c1:=fun w=>ada pr w
  rw[h1] at c1
  cases h2:wtB se with
  | false=>
   have hR:aai ⟨va,pr,se,te⟩=false:=by simp[aai,h2]
   rw[hR]
   have c2:=fun w=>ada se w
   rw[h2] at c2
   clear hR h1 h2
   go_enter Tryz.func114,Tryz.ntmps114
   go_wp2_with fail
   refine(c1 _).mono ?_
   rintro _ w1 ⟨rfl,rfl⟩
   go_wp2_with fail
   refine(c2 _).mono ?_
   rintro _ w1 ⟨rfl,rfl⟩
   go_wp2
   go_ret
   exact⟨rfl,hb0⟩
  | true=>
   have c2:=fun w=>ada se w
   rw[h2] at c2
   cases h3:wtB te with
   | false=>
    have hR:aai ⟨va,pr,se,te⟩=false:=by simp[aai,h3]
    rw[hR]
    have c3:=fun w=>ada te w
    rw[h3] at c3
    clear hR h1 h2 h3
    go_enter Tryz.func114,Tryz.ntmps114
    go_wp2_with fail
    refine(c1 _).mono ?_
    rintro _ w1 ⟨rfl,rfl⟩
    go_wp2_with fail
    refine(c2 _).mono ?_
    rintro _ w1 ⟨rfl,rfl⟩
    go_wp2_with fail
    refine(c3 _).mono ?_
    rintro _ w1 ⟨rfl,rfl⟩
    go_wp2
    go_ret
    exact⟨rfl,hb0⟩
   | true=>
    have c3:=fun w=>ada te w
    rw[h3] at c3
    have hR:aai ⟨va,pr,se,te⟩=(decide (pr≤64319)&& !(decide (pr≠0)&&decide (se=0))&& !(decide (se≠0)&&decide (te=0))&&(decide (pr≠0)|| !va)):=by simp only[aai,h1,h2,h3,Bool.true_and]
    generalize hQ:aai ⟨va,pr,se,te⟩=Q at hR⊢
    have HQ:Hid (Q=(decide (pr≤64319)&& !(decide (pr≠0)&&decide (se=0))&& !(decide (se≠0)&&decide (te=0))&&(decide (pr≠0)|| !va))):=hR
    clear hR hQ h1 h2 h3
    go_enter Tryz.func114,Tryz.ntmps114
    go_wp2_with fail
    refine(c1 _).mono ?_
    rintro _ w1 ⟨rfl,rfl⟩
    go_wp2_with fail
    refine(c2 _).mono ?_
    rintro _ w1 ⟨rfl,rfl⟩
    go_wp2_with fail
    refine(c3 _).mono ?_
    rintro _ w1 ⟨rfl,rfl⟩
    go_wp2
    all_goals go_ret
    all_goals refine⟨?_,(Below.refl _ _).alloc (Nat.le_refl _) _⟩
    all_goals rw[HQ.out]
    all_goals clear HQ c1 c2 c3 hb0
    all_goals by_cases ht:te=0
    all_goals first
     | (simp[*];done)
     | (simp;omega)
     | (cases va<;>simp[*];done)
     | (exfalso;simp_all;done)
def allB (l:List El):Bool:=decide (1≤l.length)&&decide (l.length≤16)&&l.all aai
theorem all_drop (l:List El)(k:Nat)(h:k<l.length):(l.drop k).all aai=(aai l[k]&&(l.drop (k+1)).all aai):=by
 rw[List.drop_eq_getElem_cons h,List.all_cons]
set_option maxHeartbeats 1000000 in
theorem allRight_any (n₀:Nat)(v:Value)(l:List El)(w:World)(hn₀:n₀≤w.heap.size)(hin:Els n₀ w v l)(hll:l.length≤4611686018427387904):
  Calls Tryz.prog 62 #[v] w fun e w'=>e=.returned (.bool (allB l))∧Below w.heap.size w w':=by
 obtain⟨a,cap,rfl⟩:=hin.val
 by_cases h0:l.length=0
 ·have hR:allB l=false:=by simp[allB,h0]
  rw[hR]
  rw[h0]
  clear hR
  go_enter Tryz.func62,Tryz.ntmps62
  go_wp2
  go_ret
  exact⟨rfl,Below.refl _ _⟩
 ·by_cases h16:16<l.length
  ·have hR:allB l=false:=by simp[allB];omega
   rw[hR]
   clear hR
   go_enter Tryz.func62,Tryz.ntmps62
   go_wp2
   go_ret
   exact⟨rfl,Below.refl _ _⟩
  ·have hR:allB l=l.all aai:=by
    unfold allB
    rw[show decide (1≤l.length)=true by simp;omega,show decide (l.length≤16)=true by simp;omega]
    rfl
   generalize allB l=R at hR⊢
   have HR:Hid (R=l.all aai):=hR
   clear hR
   have b0:((l.length:Int)==0)=false:=beq_eq_false_iff_ne.2 (by omega)
   have b16:decide ((16:Int)<(l.length:Int))=false:=by simp;omega
   have H0:Hid (1≤l.length∧l.length≤16):=⟨by omega,by omega⟩
   clear h0 h16
   go_enter Tryz.func62,Tryz.ntmps62
   go_wp2_with fail
   go_loopw [15] (fun i wr=> ∃k:Nat,k≤l.length∧i=.int .i64 k∧Hid (R=(l.drop k).all aai)∧Below w.heap.size w wr) (fun i _=>l.length-(intOf i).toNat)
   case atStart=>exact⟨0,by omega,rfl,HR,Below.refl _ _⟩
   case round=>
    clear HR
    obtain⟨k,hk,rfl,HK,hbel⟩:=hrel
    by_cases hlt:k<l.length
    ·obtain⟨b,off,rfl,c0,c1,c2,c3⟩:=(hin.below hbel hn₀).at hlt
     have hd:=all_drop l k hlt
     have hKK:=HK.out
     rw[hd] at hKK
     generalize l[k]=e at c0 c1 c2 c3 hKK
     obtain⟨va,pr,se,te⟩:=e
     simp only at c0 c1 c2 c3
     have hb1:=hbel.alloc hbel.size (.cells #[.bool va,.int .i64 pr,.int .i64 se,.int .i64 te] 133)
     have HKK:Hid (R=(aai ⟨va,pr,se,te⟩&&(l.drop (k+1)).all aai)):=hKK
     clear hKK HK hd
     go_wp2_with fail
     generalize wr.alloc (.cells #[.bool va,.int .i64 pr,.int .i64 se,.int .i64 te] 133)=W at hb1⊢
     refine(isRight_any ⟨va,pr,se,te⟩ W).mono ?_
     rintro _ w2 ⟨rfl,hb2⟩
     have hb3:Below w.heap.size w w2:=hb1.trans (hb2.mono hb1.size)
     cases hq:aai ⟨va,pr,se,te⟩ with
     | false=>
      have hRn:R=false:=by rw[HKK.out,hq];rfl
      clear HKK hq
      go_wp2
      go_ret
      exact⟨by rw[hRn];rfl,hb3⟩
     | true=>
      have HK2:Hid (R=(l.drop (k+1)).all aai):=by
       show _=_
       rw[HKK.out,hq];rfl
      clear HKK hq
      go_wp2
      go_roundw
      case rel=>exact⟨k+1,by omega,by simp,HK2,hb3⟩
      case measure=>simp only[intOf];omega
    ·have hRn:R=true:=by rw[HK.out,List.drop_of_length_le (by omega)];rfl
     clear HK
     go_wp2
     go_ret
     exact⟨by rw[hRn];rfl,hbel⟩
def impR (n:Int):List El:=if acf n then [⟨false,af9 n+n/32768,32,2⟩,⟨false,32768+n % 32768,0,0⟩] else []
theorem base_in (n:Int):64320≤af9 n∧af9 n≤64448:=by
 unfold af9;split
 ·omega
 ·split<;>omega
theorem and_low (u:Nat)(hu:u≤1114111):bits BinOp.and IntKind.i64 (u:Int) 32767=((u % 32768:Nat):Int):=by
 have h1:(BitVec.ofInt 64 (u:Int)).toNat=u:=by
  rw[BitVec.ofInt_natCast,BitVec.toNat_ofNat];exact Nat.mod_eq_of_lt (by omega)
 have h2:(BitVec.ofInt 64 (32767:Int)).toNat=32767:=by decide
 have h3:u &&& 32767=u % 32768:=Nat.and_two_pow_sub_one_eq_mod u 15
 show IntKind.i64.wrap ((BitVec.ofInt 64 (u:Int) &&& BitVec.ofInt 64 (32767:Int)).toNat:Int)=_
 rw[BitVec.toNat_and,h1,h2,h3]
 have h4:u % 32768<32768:=Nat.mod_lt _ (by omega)
 generalize u % 32768=q at h4
 exact IntWalk.i64_in _ ⟨by omega,by omega⟩
theorem own_new (w:World)(l:List El)(hl:l.length≤1048576):EOwn (w.alloc (.cells (elsV l).toArray 133)) w.heap.size (.slice (some ⟨w.heap.size,0,none⟩) l.length l.length) l:=by
 refine⟨?_,.inr ⟨w.heap.size,l.length,(elsV l).toArray,rfl,Nat.le_refl _,Blk.new w 133 _,Nat.le_refl _,?_,?_,?_⟩⟩
 ·simp[afz]
 ·unfold maxLen;omega
 ·simp[afz]
 ·simp[afz,List.take_of_length_le]
set_option maxHeartbeats 1000000 in
theorem implied_any (n:Int)(w:World):Calls Tryz.prog 126 #[.int .i64 n] w fun e w'=> ∃v,e=.returned v∧EOwn w' w.heap.size v (impR n)∧Below w.heap.size w w'∧(v=.slice none 0 0∨v=.slice (some ⟨w.heap.size,0,none⟩) 2 2):=by
 cases hp:acf n with
 | false=>
  have hR:impR n=[]:=by unfold impR;rw[hp];rfl
  rw[hR]
  have h1:=fun w=>isPoint_any n w
  rw[hp] at h1
  clear hR hp
  go_enter Tryz.func126,Tryz.ntmps126
  go_wp2_with fail
  refine(h1 _).mono ?_
  rintro _ w1 ⟨rfl,rfl⟩
  go_wp2
  go_ret
  exact⟨_,rfl,EOwn.nil _ _,Below.refl _ _,.inl rfl⟩
 | true=>
  have h1:=fun w=>isPoint_any n w
  rw[hp] at h1
  obtain⟨u,rfl,hu⟩:=ad0 hp
  have hR:impR (u:Int)=[⟨false,af9 u+(u:Int)/32768,32,2⟩,⟨false,32768+(u:Int) % 32768,0,0⟩]:=by unfold impR;rw[hp];rfl
  have hbi:=base_in u
  have hand:=and_low u hu
  have hq:(0:Int)≤(u:Int)/32768∧(u:Int)/32768≤34:=by omega
  have hm:((u % 32768:Nat):Int)<32768:=by omega
  generalize impR (u:Int)=R at hR⊢
  have HR:Hid (R=[⟨false,af9 u+(u:Int)/32768,32,2⟩,⟨false,32768+(u:Int) % 32768,0,0⟩]):=hR
  clear hp hR
  have h2:=fun w=>base_any (u:Int) w
  generalize af9 (u:Int)=B at hbi h2 HR
  go_enter Tryz.func126,Tryz.ntmps126
  go_wp2_with fail
  refine(h1 _).mono ?_
  rintro _ w1 ⟨rfl,rfl⟩
  go_wp2_with fail
  refine(h2 _).mono ?_
  rintro _ w1 ⟨rfl,rfl⟩
  go_wp2_with fail
  go_ret
  have ho:=own_new w R (by rw[HR.out];simp)
  refine⟨_,rfl,?_,(Below.refl _ _).alloc (Nat.le_refl _) _,.inr rfl⟩
  rw[HR.out] at ho⊢
  exact ho
end Go.Proofs.YtpfkoldfbecdlaaGreatDoor
