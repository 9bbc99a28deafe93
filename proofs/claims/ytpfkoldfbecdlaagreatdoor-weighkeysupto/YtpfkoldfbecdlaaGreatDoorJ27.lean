/- Contracts and lemmas (nothing is claimed here). -/
import Derived.Test.YtpfkoldfbecdlaaGreatDoorJ26
import Derived.Test.YtpfkoldfbecdlaaGreatDoorJ24
import Derived.Test.YtpfkoldfbecdlaaGreatDoorJ18
namespace Go.Proofs.YtpfkoldfbecdlaaGreatDoor
open Go.RowKit Go.Vf Go.Maps
theorem longT_ge: ∀ {E:List Ent} {e:Ent} {x:Int},e∈E→e.1.head? =some x→e.1.length≤abw E x:=by
 intro E
 induction E with
 | nil=>intro e x he;cases he
 | cons a r ih=>
  intro e x he hx
  unfold abw
  rcases List.mem_cons.1 he with rfl | he
  ·rw[if_pos hx];omega
  ·have:=ih he hx
   split<;>omega
theorem fndT_most {E:List Ent}(x:Int):Most (aaw E) x (abw E x):=by
 intro q hq hx
 unfold aaw at hq
 obtain⟨l,hl⟩:=Option.isSome_iff_exists.1 hq
 exact longT_ge (e:=(q,l)) (afd hl) hx
theorem longT_eight {E:List Ent}(hok: ∀e∈E,EntOk e)(x:Int):abw E x≤8:=longT_le E x (fun e he=>(ab2 (hok e he).row).2)
structure RestOk (cls:Int→Int)(ps:List (List Int)):Prop where
 int: ∀p∈ps,∀q∈p,InI q
 rise:Rising cls 0 ps
 len:ps.length≤1000000000000
 few: ∀p∈ps,p.length≤1000000000000
theorem join_mem {cls:Int→Int}{fnd:List Int→Bool}{m:Nat}: ∀(ps:List (List Int)) (row:List Int),∀p'∈(aa1 cls fnd m row ps).2,∃p∈ps,∃k,p'=p.drop k:=by
 have key: ∀(p row:List Int),∃k,(aa6 cls fnd m row p).2.1=p.drop k:=by
  intro p
  induction p with
  | nil=>intro row;exact⟨0,rfl⟩
  | cons x xs ih=>
   intro row
   unfold aa6
   split
   ·exact⟨0,rfl⟩
   ·split
    ·obtain⟨k,hk⟩:=ih (row++[x])
     exact⟨k+1,by simpa using hk⟩
    ·exact⟨0,rfl⟩
 intro ps
 induction ps with
 | nil=>intro row p' h;simp[aa1] at h
 | cons p ps ih=>
  intro row p' h
  obtain⟨k,hk⟩:=key p row
  unfold aa1 at h
  split at h
  ·rcases List.mem_cons.1 h with rfl | h
   ·exact⟨p,by simp,k,hk⟩
   ·exact⟨p',by simp[h],0,by simp⟩
  ·rcases List.mem_cons.1 h with rfl | h
   ·exact⟨p,by simp,k,hk⟩
   ·obtain⟨q,hq,j,hj⟩:=ih _ p' h
    exact⟨q,by simp[hq],j,hj⟩
theorem drop_mem: ∀(ps:List (List Int)) (n:Nat),∀p'∈acb n ps,∃p∈ps,∃k,p'=p.drop k:=by
 intro ps
 induction ps with
 | nil=>intro n p' h;simp[acb] at h
 | cons p ps ih=>
  intro n p' h
  unfold acb at h
  rcases List.mem_cons.1 h with rfl | h
  ·exact⟨p,by simp,_,rfl⟩
  ·obtain⟨q,hq,j,hj⟩:=ih _ p' h
   exact⟨q,by simp[hq],j,hj⟩
theorem RestOk.sub {cls:Int→Int}{ps qs:List (List Int)}(h:RestOk cls ps)(hm: ∀p'∈qs,∃p∈ps,∃k,p'=p.drop k)(hr:Rising cls 0 qs)(hl:qs.length≤ps.length):RestOk cls qs where
 int:=fun p' hp q hq=>by
  obtain⟨p,h1,k,rfl⟩:=hm p' hp
  exact h.int p h1 q (List.mem_of_mem_drop hq)
 rise:=hr
 len:=by have:=h.len;omega
 few:=fun p' hp=>by
  obtain⟨p,h1,k,rfl⟩:=hm p' hp
  have:=h.few p h1
  rw[List.length_drop]
  omega
set_option maxHeartbeats 4000000 in
set_option maxRecDepth 20000 in
theorem step_any {w₁:World}{bd T B g off cap me ml:Nat}{val:List Int→Value}{L:List Mk}{F:Int→List Int}{E:List Ent}{x:Int}{t:List Int}{ps:List (List Int)}{W:World}
  (hk:MWk w₁ bd T B g off cap ((x::t)::ps) W) (hd:DataAt w₁ bd L F) (ht:TabAt w₁ T me ml val E) (hok:RestOk (aaa L) ((x::t)::ps)) (hc0: ∀q,0≤aaa L q):
  Calls Tryz.prog 168 #[.pointer (some ⟨B,0,none⟩)] W fun e W'=> ∃v qs,e=.returned v∧IOwn W' W.heap.size v (acl (aaa L) (aaw E) ((x::t)::ps).flatten).1∧qs.flatten=(acl (aaa L) (aaw E) ((x::t)::ps).flatten).2∧MWk w₁ bd T B g off cap qs W'∧RestOk (aaa L) qs∧Mv B g W W':=by
 have hm8:=longT_eight ht.ok x
 have hx:=hok.int _ (List.mem_cons_self ..) x (by simp)
 have hlen:((x::t)::ps).length≤4611686018427387904:=by have:=hok.len;omega
 have hfew: ∀p∈(x::t)::ps,p.length≤4611686018427387904:=fun p hp=>by have:=hok.few p hp;omega
 generalize hP:(x::t)::ps=P at*
 have hhd:P.flatten.head? =some x:=by rw[←hP];simp
 have hne:P.flatten≠ []:=fun e=>by rw[e] at hhd;cases hhd
 have hmost:=fndT_most (E:=E) x
 have hhN:ad7 (aaw E) P.flatten=abe (aaw E) P.flatten (min (max 1 (abw E x)) P.flatten.length):=headN_most _ (by omega) hhd (fun q h1 h2=>Nat.le_trans (hmost q h1 h2) (by omega))
 have hBW:=hk.blk.lt
 obtain⟨csg,hcg⟩:=hk.row
 have hgW:=hcg.lt
 have hle:=headN_le (fnd:=aaw E) P.flatten
 have hlp:1≤P.flatten.length:=List.length_pos_iff.2 hne
 rw[←hP] at hk hlen hfew
 have hbeg:=beginning_any hk ht hx hlen hfew hm8
 rw[hP] at hk hlen hfew hbeg
 rw[←hhN] at hbeg
 clear hhN
 generalize hS:acl (aaa L) (aaw E) P.flatten=S
 have HS:Hid (acl (aaa L) (aaw E) P.flatten=S):=hS
 clear hS
 go_enter Tryz.func168,Tryz.ntmps168
 go_wp2_with fail
 refine hbeg.mono ?_
 rintro e W2 ⟨n,b,gr,kr,cr,rfl,rfl,rfl,hown,hb2⟩
 have hk2:=hk.go hb2
 have hkr:=hown.form1
 by_cases hn:ad7 (aaw E) P.flatten=0
 ·rw[if_pos hn] at hown hkr
  have hst:acl (aaa L) (aaw E) P.flatten=(P.flatten.take 1,P.flatten.drop 1):=by unfold acl;rw[if_pos hn]
  rw[hn]
  have hkr1:kr=1:=by rw[hkr,List.length_take];omega
  subst hkr1
  have hdr:=drop_any hk2 hlen hfew 1 hlp (by omega)
  have HJS:Hid (S=(P.flatten.take 1,P.flatten.drop 1)):=HS.out.symm.trans hst
  clear hst hbeg hkr hn HS
  go_wp2_with fail
  refine hdr.mono ?_
  rintro e W3 ⟨rfl,hk3,hmv3⟩
  have hmv:Mv B g W W3:=(Mv.below hb2).trans hmv3
  have hown3:IOwn W3 W.heap.size (.slice (some ⟨gr,0,none⟩) 1 cr) (P.flatten.take 1):=aca hown (fun k hk'=>hmv3.block k (own_lt hown k hk') (by have:=(aah hown hk').1;omega) (by have:=(aah hown hk').1;omega))
  have hfin:IOwn W3 W.heap.size (.slice (some ⟨gr,0,none⟩) 1 cr) S.1∧(acb 1 P).flatten=S.2:=by rw[HJS.out];exact⟨hown3,dropPs_flat P 1⟩
  clear HJS
  go_wp2_with fail
  go_ret
  exact⟨_,_,rfl,hfin.1,hfin.2,hk3,hok.sub (drop_mem P 1) (hok.rise.drop hc0 P 1) (by rw[dropPs_length];exact Nat.le_refl _),hmv⟩
 ·rw[if_neg hn] at hown hkr
  have hhit:=headN_hit hn
  generalize hN:ad7 (aaw E) P.flatten=n at*
  have hst:acl (aaa L) (aaw E) P.flatten=ab1 (aaa L) (aaw E) (P.flatten.take n) 0 (P.flatten.drop n):=by unfold acl;rw[hN,if_neg hn]
  have hkr1:kr=n:=by rw[hkr,List.length_take];omega
  subst hkr1
  have hdr:=drop_any hk2 hlen hfew kr hle.1 hle.2
  obtain⟨r,hr⟩: ∃r,P.flatten.take kr=x::r:=by
   cases hf:P.flatten with
   | nil=>exact absurd hf hne
   | cons y q=>
    rw[hf] at hhd
    obtain rfl:y=x:=by simpa using hhd
    obtain⟨m,rfl⟩:=Nat.exists_eq_succ_of_ne_zero hn
    exact⟨q.take m,by simp⟩
  rw[hr] at hown hhit hst
  have hmr:=hmost _ hhit rfl
  have hrd:=hok.rise.drop hc0 P kr
  have hokd:RestOk (aaa L) (acb kr P):=hok.sub (drop_mem P kr) hrd (by rw[dropPs_length];exact Nat.le_refl _)
  obtain⟨js,jr,jl⟩:=join_scan hmost hc0 (acb kr P) (x::r) 0 hrd (Int.le_refl _) rfl hmr
  rw[dropPs_flat,←hst,HS.out] at js
  have hdec:decide (kr≠0)=true:=by simpa using hn
  rw[hdec]
  have HJS:Hid (S=_):=js
  have hjm:=join_mem (cls:=aaa L) (fnd:=aaw E) (m:=abw E x) (acb kr P) (x::r)
  clear hst hbeg hkr hN hr hhit js HS
  go_wp2_with fail
  refine hdr.mono ?_
  rintro e W3 ⟨rfl,hk3,hmv3⟩
  have hmv:Mv B g W W3:=(Mv.below hb2).trans hmv3
  have hown3:IOwn W3 W.heap.size (.slice (some ⟨gr,0,none⟩) kr cr) (x::r):=aca hown (fun k hk'=>hmv3.block k (own_lt hown k hk') (by have:=(aah hown hk').1;omega) (by have:=(aah hown hk').1;omega))
  have hjo:=mjoin_any hk3 hd ht hx hokd.int (by have:=hokd.len;omega) (fun p hp=>by have:=hokd.few p hp;omega) hm8 hmr ⟨hBW,hgW,hmv.size,hk.below.size⟩ hown3
  generalize aa1 (aaa L) (aaw E) (abw E x) (x::r) (acb kr P)=J at hjo jr jl HJS hjm
  go_wp2_with fail
  refine hjo.mono ?_
  rintro e W4 ⟨g2,k2,c2,rfl,hown4,hk4,hkg⟩
  have hfin:IOwn W4 W.heap.size (.slice (some ⟨g2,0,none⟩) k2 c2) S.1∧J.2.flatten=S.2:=by rw[HJS.out];exact⟨hown4,rfl⟩
  clear HJS
  go_wp2_with fail
  go_ret
  exact⟨_,J.2,rfl,hfin.1,hfin.2,hk4,hokd.sub hjm jr (by rw[jl];exact Nat.le_refl _),⟨Nat.le_trans hmv.size hkg.size,fun k h1 h2 h3=>(hkg.block k h1 h3).trans (hmv.block k h1 h2 h3)⟩⟩
section
variable {cls:Int→Int}
theorem byC_more: ∀(n k:Nat) (l:List Int),l.length≤n→l.length≤k→byC cls n l=byC cls k l:=by
 intro n
 induction n with
 | zero=>
  intro k l h1 _
  obtain rfl:l=[]:=List.eq_nil_of_length_eq_zero (by omega)
  cases k<;>rfl
 | succ n ih=>
  intro k l h1 h2
  cases l with
  | nil=>cases k<;>rfl
  | cons x xs=>
   cases k with
   | zero=>simp at h2
   | succ k=>
    have:=af1 (p:=fun y=>cls y==cls x) xs
    simp only[List.length_cons] at h1 h2
    rw[byC,byC,ih k _ (by omega) (by omega)]
def pcsC (cls:Int→Int)(l:List Int):List (List Int):=byC cls l.length l
theorem while_cut (c:Int): ∀(xs:List Int) (k:Nat),k≤xs.length→(∀i,i<k→cls (xs.getD i 0)=c)→(k<xs.length→cls (xs.getD k 0)≠c)→xs.takeWhile (fun y=>cls y==c)=xs.take k∧xs.dropWhile (fun y=>cls y==c)=xs.drop k:=by
 intro xs
 induction xs with
 | nil=>intro k hk _ _;simp at hk;subst hk;simp
 | cons x t ih=>
  intro k hk h1 h2
  cases k with
  | zero=>
   have:=h2 (by simp)
   simp at this
   simp[this]
  | succ k=>
   have h0:=h1 0 (by omega)
   simp at h0
   obtain⟨e1,e2⟩:=ih k (by simpa using hk) (fun i hi=>by have:=h1 (i+1) (by omega);simpa using this) (fun hi=>by have:=h2 (by simp;omega);simpa using this)
   simp[h0,e1,e2]
structure RunEnds (cls:Int→Int)(X:List Int)(fr en:Nat):Prop where
 lt:fr<en
 le:en≤X.length
 same: ∀i,fr≤i→i<en→cls (X.getD i 0)=cls (X.getD fr 0)
 stop:en<X.length→cls (X.getD en 0)≠cls (X.getD fr 0)
theorem getD_drop (X:List Int)(a i:Nat):(X.drop a).getD i 0=X.getD (a+i) 0:=by simp[List.getD_eq_getElem?_getD,List.getElem?_drop]
theorem RunEnds.cut {X:List Int}{fr en:Nat}(h:RunEnds cls X fr en):pcsC cls (X.drop fr)=(X.drop fr).take (en-fr)::pcsC cls (X.drop en):=by
 have h1:=h.lt
 have h2:=h.le
 have hdr:X.drop fr=X[fr]::X.drop (fr+1):=List.drop_eq_getElem_cons (by omega)
 have hx:X.getD fr 0=X[fr]:=by simp[List.getD_eq_getElem?_getD,List.getElem?_eq_getElem (show fr<X.length by omega)]
 obtain⟨e1,e2⟩:=while_cut (cls:=cls) (cls X[fr]) (X.drop (fr+1)) (en-fr-1) (by rw[List.length_drop];omega)
  (fun i hi=>by rw[getD_drop,h.same _ (by omega) (by omega),hx])
  (fun hi=>by
   rw[List.length_drop] at hi
   rw[getD_drop,show fr+1+(en-fr-1)=en by omega,←hx]
   exact h.stop (by omega))
 have e3:(X[fr]::X.drop (fr+1)).take (en-fr)=X[fr]::(X.drop (fr+1)).take (en-fr-1):=by
  obtain⟨k,hk⟩: ∃k,en-fr=k+1:=⟨en-fr-1,by omega⟩
  rw[hk,List.take_succ_cons,Nat.add_sub_cancel]
 unfold pcsC
 rw[hdr,e3]
 simp only[List.length_cons,byC]
 rw[e1,e2,List.drop_drop,show fr+1+(en-fr-1)=en by omega,byC_more _ (X.drop en).length _ (by simp;omega) (Nat.le_refl _)]
end
structure PcO (n₀:Nat)(W:World)(base:Nat)(v:Value)(ps:List (List Int)):Prop where
 row: ∃vs:List Value,W.ownsRow base 90 1 v ps.length vs∧ ∀j (h:j<ps.length),∃b o c,vs[j]? =some (.slice (some ⟨b,o,none⟩) ps[j].length c)∧ps[j].length≤c∧Pc n₀ W b o ps[j]
theorem info24:(Tryz.prog.info? 90).map (fun i=>(i.zero,i.size,i.bytes))=some (some (.slice none 0 0),1,24):=by kernel_rfl
theorem acx {w:World}{ops:Array Oper}{rest:List Oper}{o:Oper}{a:Act}{Q:Exit→Act→World→Prop}(hgd:o.guard=none)(s x:Operand)
  (ho:o.op=.call {callee:=.builtin .append,args:= #[s,x],argTypes:= #[87,87]})
  (base:Nat) (v:Value) (vs:List Value) (hs:a.eval s=v) (hown:w.ownsRow base 90 1 v vs.length vs) (sa:Option Addr) (sn sc:Nat) (ad:Addr) (c:Nat) (hx:a.eval x=.slice (some ad) 1 c) (hcell:w.cell? ad=some (.slice sa sn sc))
  (hlen:vs.length≤1000000000000) (hbase:base≤w.heap.size)
  (h: ∀v' w',w'.ownsRow base 90 1 v' (vs.length+1) (vs++[.slice sa sn sc])→w.grownBy w' v.ownBlock→(v'.ownBlock=v.ownBlock∨v'.ownBlock=some w.heap.size)→wpList Tryz.prog ops Q rest (a.put o.dst v') w'):
  wpList Tryz.prog ops Q (o::rest) a w:=by
 obtain⟨i,hi,hz,hsz,hby⟩:=info_parts info24
 refine wpList_append_own_at (P:=Tryz.prog) _ hgd s x 87 ho base 90 i (.slice none 0 0) 1 24 Tryz.underlying87 hi hz hsz hby rfl (by decide) v vs.length vs hs hown ad 1 c [.slice sa sn sc] hx (by simp) ?_ ?_ ?_ ?_ hbase ?_
 ·intro j u hu
  match j,hu with
  | 0,hu=>simp at hu;subst hu;rw[show ad.add 0=ad by cases ad;simp[Addr.add]];exact hcell
 ·intro u hu
  simp at hu
  subst hu
  rfl
 ·unfold maxLen;omega
 ·omega
 ·intro v' w' h1 h2 _ hat
  exact h v' w' h1 h2 hat
theorem PcO.nil (n₀:Nat)(W:World)(base:Nat):PcO n₀ W base (.slice none 0 0) []:=⟨[],World.ownsRow_nil _ _ _ _,fun j h=>absurd h (by simp)⟩
set_option maxHeartbeats 4000000 in
set_option maxRecDepth 20000 in
theorem mcut_any {bd:Nat}{L:List Mk}{F:Int→List Int}{b c:Nat}{X:List Int}{w:World}(hd:DataAt w bd L F)(hX: ∀q∈X,InI q)(hin:IOwn w 0 (.slice (some ⟨b,0,none⟩) X.length c) X)(hl:X.length≤100000000000):
  Calls Tryz.prog 166 #[.pointer (some ⟨bd,0,none⟩),.slice (some ⟨b,0,none⟩) X.length c] w fun e w'=> ∃v,e=.returned v∧PcO w.heap.size w' w.heap.size v (pcsC (aaa L) X)∧Below w.heap.size w w':=by
 obtain⟨hbW,hcX,hcells⟩:b<w.heap.size∧X.length≤c∧ ∀j,j<X.length→w.cell? ⟨b,j,none⟩=some (.int .i64 (X.getD j 0)):=by
  rcases hin.form with ⟨e,_⟩ | ⟨g,cap,e,_,h1,h2,h3,_⟩
  ·cases e
  ·cases e;exact⟨h1,h2,fun j hj=>by rw[List.getD_eq_getElem?_getD];exact h3 j hj⟩
 have h1: ∀W p q,Below w.heap.size w W→InI p→Calls Tryz.prog 136 #[.pointer (some ⟨bd,0,none⟩),.int .i64 p] (W.drewN q) fun e w'=>e=.returned (.int .i64 (aaa L p))∧w'=W.drewN q:=fun W p q hW hp=>(class_any bd L F p _ hp (hd.below (hW.trans ((abv W q).mono hW.size)))).mono fun e w' h=>⟨h.1,h.2.symm⟩
 have HCX:Hid (X.length≤c):=hcX
 have HR:Hid ([]++pcsC (aaa L) (X.drop 0)=pcsC (aaa L) X):=by show _=_;simp
 generalize pcsC (aaa L) X=R at HR⊢
 clear hin hcX
 go_enter Tryz.func166,Tryz.ntmps166
 go_wp2_with fail
 go_loopw [5,6,7] (fun v fv tv wr=> ∃(fr:Nat) (acc:List (List Int)),fr≤X.length∧fv=.int .i64 fr∧tv=.int .i64 fr∧Aside (PcO w.heap.size wr w.heap.size v acc)∧Hid (acc.length≤fr∧ ∃a n c,v=.slice a n c)∧Hid (acc++pcsC (aaa L) (X.drop fr)=R)∧Below w.heap.size w wr) (fun _ fv _ _=>X.length-(intOf fv).toNat)
 case atStart=>exact⟨0,[],by omega,rfl,rfl,PcO.nil _ _ _,⟨by simp,none,0,0,rfl⟩,HR,Below.refl _ _⟩
 case round=>
  clear HR
  obtain⟨fr,acc,hfr,rfl,rfl,HPO,HV,HR,hbr⟩:=hrel
  obtain⟨va,vn,vc,rfl⟩:=HV.out.2
  by_cases hlt:fr<X.length
  ·have hx:InI (X.getD fr 0):=hX _ (agw hlt)
   have cfr:=(hbr.cell (p:=⟨b,fr,none⟩) hbW).trans (hcells fr hlt)
   go_wp2_with fail
   obtain⟨wo,hwo⟩: ∃wo,wo=wr:=⟨_,rfl⟩
   subst hwo
   go_loopw [7] (fun tv wr2=> ∃en:Nat,fr≤en∧en≤X.length∧tv=.int .i64 en∧Hid (∀i,fr≤i→i<en→aaa L (X.getD i 0)=aaa L (X.getD fr 0))∧Below wo.heap.size wo wr2) (fun tv _=>X.length-(intOf tv).toNat)
   case atStart=>exact⟨fr,Nat.le_refl _,hfr,rfl,fun i h1 h2=>absurd h2 (by omega),Below.refl _ _⟩
   case round=>
    clear cfr
    obtain⟨en,he1,he2,rfl,HS,hb2⟩:=hrel
    have hbw:=hbr.trans (hb2.mono hbr.size)
    have cfr:=(hbw.cell (p:=⟨b,fr,none⟩) hbW).trans (hcells fr hlt)
    have HE:Hid (en<X.length→aaa L (X.getD en 0)=aaa L (X.getD fr 0)→ ∀i,fr≤i→i<en+1→aaa L (X.getD i 0)=aaa L (X.getD fr 0)):=fun _ hc i g1 g2=>by
     rcases Nat.lt_or_ge i en with h | h
     ·exact HS.out i g1 h
     ·obtain rfl:i=en:=by omega
      exact hc
    have HF:Hid (¬(en<X.length∧aaa L (X.getD en 0)=aaa L (X.getD fr 0))→RunEnds (aaa L) X fr en):=fun hc=>⟨by
     rcases Nat.lt_or_ge fr en with h | h
     ·exact h
     ·obtain rfl:fr=en:=by omega
      exact absurd ⟨hlt,rfl⟩ hc,he2,HS.out,fun h e=>hc ⟨h,e⟩⟩
    have h2: ∀p q,InI p→Calls Tryz.prog 136 #[.pointer (some ⟨bd,0,none⟩),.int .i64 p] (wr.drewN q) fun e w'=>e=.returned (.int .i64 (aaa L p))∧w'=wr.drewN q:=fun p q hp=>h1 wr p q hbw hp
    obtain⟨bb,hbb⟩: ∃bb,bb=(decide (en<X.length)&&(aaa L (X.getD en 0)==aaa L (X.getD fr 0))):=⟨_,rfl⟩
    have HBB:Hid (bb=(decide (en<X.length)&&(aaa L (X.getD en 0)==aaa L (X.getD fr 0)))):=hbb
    clear hbb
    go_upto_region 5 with fail
    go_cut [31] from 13 to 33 (fun v wx=>v=.bool bb∧Aside (Below wo.heap.size wo wx))
    case first=>
     by_cases hen:en<X.length
     ·have cen:=(hbw.cell (p:=⟨b,en,none⟩) hbW).trans (hcells en hen)
      have hy:InI (X.getD en 0):=hX _ (agw hen)
      have hb3:(aaa L (X.getD en 0)==aaa L (X.getD fr 0))=bb:=by rw[HBB.out];simp[hen]
      generalize X.getD en 0=y at cen hy hb3
      generalize X.getD fr 0=x at cfr hx hb3
      clear HE HF HBB HS
      go_quiet (first | (go_at_call 136;exact Calls.quiet_of_same (h2 _ _ (by assumption))))
      go_wp2_with fail
      go_meet
      exact⟨by simp,hb2.trans ((abv wr _).mono hb2.size)⟩
     ·have hb3:bb=false:=by rw[HBB.out];simp[hen]
      have hen2: ¬((en:Int)<(X.length:Int)):=by omega
      clear HE HF HBB HS
      subst hb3
      go_quiet (fail)
      go_wp2_with fail
      go_meet
      exact⟨by simp,hb2.trans ((abv wr _).mono hb2.size)⟩
    case rest=>
     obtain⟨rfl,HB2⟩:=hcut
     clear cfr hb2 hbw h2 HS
     cases bb with
     | true=>
      have hbb:=HBB.out
      simp at hbb
      have HS2:Hid (∀i,fr≤i→i<en+1→aaa L (X.getD i 0)=aaa L (X.getD fr 0)):=HE.out hbb.1 hbb.2
      have hen:=hbb.1
      clear HE HF HBB hbb
      go_wp2_with fail
      go_roundw
      case rel=>exact⟨en+1,by omega,by omega,by simp,HS2,HB2.out⟩
      case measure=>simp only[intOf];omega
     | false=>
      have hbb:=HBB.out
      have hre:RunEnds (aaa L) X fr en:=HF.out (fun h=>by rw[decide_eq_true h.1,h.2] at hbb;simp at hbb)
      obtain⟨vs,hrow,hvs⟩:=HPO.out.row
      have hvl:vs.length=acc.length:=by have:=hrow.1;omega
      have hrow':wc.ownsRow w.heap.size 90 1 (.slice va vn vc) vs.length vs:=by rw[hvl];exact aac hrow HB2.out
      have hbc:Below w.heap.size w wc:=hbr.trans (HB2.out.mono hbr.size)
      have hcut:=hre.cut
      have hRR:Hid (acc++[(X.drop fr).take (en-fr)]++pcsC (aaa L) (X.drop en)=R):=by
       show _=_
       rw[←HR.out,hcut]
       simp
      have hen1:=hre.lt
      have hcfr: ¬c=fr:=by have:=HCX.out;omega
      have hcc:en≤c:=by have:=HCX.out;omega
      have hbA:=(Below.refl wc.heap.size wc).alloc (Nat.le_refl _) (.cells #[.slice (some ⟨b,fr,none⟩) (en-fr) (c-fr)] 90)
      have hnb:=Blk.new wc 90 #[.slice (some ⟨b,fr,none⟩) (en-fr) (c-fr)]
      have hszA:w.heap.size≤(wc.alloc (.cells #[.slice (some ⟨b,fr,none⟩) (en-fr) (c-fr)] 90)).heap.size:=Nat.le_trans hbc.size hbA.size
      have HROW:Aside ((wc.alloc (.cells #[.slice (some ⟨b,fr,none⟩) (en-fr) (c-fr)] 90)).ownsRow w.heap.size 90 1 (.slice va vn vc) vs.length vs):=aac hrow' hbA
      have hvl2:vs.length≤1000000000000:=by have:=HV.out.1;omega
      clear HBB hbb HE HF hrow hrow' hre hcut
      go_wp2_with (first | (at_builtin;refine acx rfl _ _ rfl w.heap.size _ vs rfl HROW.out (some ⟨b,fr,none⟩) (en-fr) (c-fr) ⟨wc.heap.size,0,none⟩ _ rfl (hnb.cell 0) hvl2 hszA ?_;intro v4 w4 hown4 hgr4 hat4;obtain⟨a4,c4,rfl⟩:=aba hown4))
      have hb4:Below w.heap.size w w4:=(hbc.alloc hbc.size _).grown hgr4 hszA (fun j hj=>(aah HROW.out hj).1)
      have HPO4:Aside (PcO w.heap.size w4 w.heap.size (.slice a4 (vs.length+1) c4) (acc++[(X.drop fr).take (en-fr)])):=by
       refine⟨vs++[.slice (some ⟨b,fr,none⟩) (en-fr) (c-fr)],by rw[List.length_append,←hvl];exact hown4,fun j hj=> ?_⟩
       rcases Nat.lt_or_ge j acc.length with h | h
       ·obtain⟨b',o',c',q1,q2,q3⟩:=hvs j h
        rw[List.getElem_append_left h]
        exact⟨b',o',c',by rw[List.getElem?_append_left (by omega)];exact q1,q2,q3.same (fun k hk=>(hb4.block k hk).trans (hbr.block k hk).symm)⟩
       ·have hj':j=acc.length:=by simp at hj;omega
        subst hj'
        have hlt2:((X.drop fr).take (en-fr)).length=en-fr:=by rw[List.length_take,List.length_drop];omega
        simp only[List.getElem_append_right (Nat.le_refl _),Nat.sub_self,List.getElem_cons_zero,hlt2]
        refine⟨b,fr,c-fr,by rw[List.getElem?_append_right (by omega),hvl];simp,by omega,hbW,fun i hi=> ?_⟩
        rw[hlt2] at hi
        rw[(hb4.cell (p:=⟨b,fr+i,none⟩) hbW),hcells (fr+i) (by omega),List.getElem?_take_of_lt hi,List.getElem?_drop,List.getD_eq_getElem?_getD]
      clear hown4 hgr4 hat4 HROW hvs
      go_roundw
      case rel=>exact⟨en,acc++[(X.drop fr).take (en-fr)],by omega,by simp,by simp,by rw[←hvl];exact HPO4,⟨by have:=HV.out.1;simp;omega,_,_,_,rfl⟩,hRR,hb4⟩
      case measure=>simp only[intOf];omega
  ·have hRR:R=acc:=by
    rw[←HR.out,List.drop_of_length_le (by omega)]
    simp[pcsC,byC]
   clear HR
   go_wp2_with fail
   go_ret
   rw[hRR]
   exact⟨_,rfl,HPO.out,hbr⟩
theorem RowsAt.snoc {W':World}{base:Nat}{vs:List Value}{rs:List (List Int)}{v u:Value}{r:List Int}(hvs: ∀i (h:i<rs.length),∃u,vs[i]? =some u∧IOwn W' base u rs[i])(hl:vs.length=rs.length)(hu:IOwn W' base u r)(hrow:W'.ownsRow base 90 1 v (vs.length+1) (vs++[u])):RowsAt W' base v (rs++[r]):=by
 refine⟨vs++[u],by rw[List.length_append,←hl];exact hrow,fun i hi=> ?_⟩
 rcases Nat.lt_or_ge i rs.length with h | h
 ·obtain⟨u',q1,q2⟩:=hvs i h
  rw[List.getElem_append_left h]
  exact⟨u',by rw[List.getElem?_append_left (by omega)];exact q1,q2⟩
 ·have hj':i=rs.length:=by simp at hi;omega
  subst hj'
  simp only[List.getElem_append_right (Nat.le_refl _),Nat.sub_self,List.getElem_cons_zero]
  exact⟨u,by rw[List.getElem?_append_right (by omega),hl];simp,hu⟩
theorem byC_len {cls:Int→Int}: ∀(n:Nat) (l:List Int),(byC cls n l).length≤l.length:=by
 intro n
 induction n with
 | zero=>intro l;simp[byC]
 | succ n ih=>
  intro l
  cases l with
  | nil=>simp[byC]
  | cons x xs=>
   have h1:=ih (xs.dropWhile (fun y=>cls y==cls x))
   have h2:=af1 (p:=fun y=>cls y==cls x) xs
   rw[byC]
   simp only[List.length_cons]
   omega
theorem rising_rep {cls:Int→Int}{top:Int}{ps:List (List Int)}: ∀n:Nat,Rising cls top (List.replicate n []++ps)→Rising cls top ps:=by
 intro n
 induction n with
 | zero=>intro h;simpa using h
 | succ n ih=>
  intro h
  rw[List.replicate_succ,List.cons_append] at h
  rcases h with ⟨_,h⟩ | ⟨c,h0,_⟩
  ·exact ih h
  ·exact absurd rfl h0
theorem own_mv {W W':World}{base B g:Nat}{e:TypeId}{size k:Nat}{v:Value}{xs:List Value}(h:W.ownsRow base e size v k xs)(hm:Mv B g W W')(hB:B<base)(hg:g<base):W'.ownsRow base e size v k xs:=
 aca h (fun j hj=>hm.block j (own_lt h j hj) (by have:=(aah h hj).1;omega) (by have:=(aah h hj).1;omega))
def sliceLen:Value→Nat
 | .slice _ n _=>n
 | _=>0
theorem more_nil (B bd T:Nat)(W:World)(h:Blk W B 239 #[.pointer (some ⟨bd,0,none⟩),.pointer (some ⟨T,0,none⟩),.slice none 0 0]):Calls Tryz.prog 167 #[.pointer (some ⟨B,0,none⟩)] W fun e w'=>e=.returned (.bool false)∧W=w':=by
 have c2:W.cell? ⟨B,2,none⟩=some (.slice none 0 0):=h.cell 2
 go_enter Tryz.func167,Tryz.ntmps167
 go_wp2_with fail
 go_loopw [] (fun wr=>wr=W) (fun _=>0)
 case atStart=>rfl
 case round=>
  obtain rfl:=hrel
  go_wp2
  go_ret
  exact⟨rfl,rfl⟩
theorem pcs_of_row {n₀ g n cap base:Nat}{W:World}{ps:List (List Int)}(h:PcO n₀ W base (.slice (some ⟨g,0,none⟩) n cap) ps):n=ps.length∧n≤cap∧base≤g∧(∃cs,Blk W g 90 cs)∧Pcs n₀ W g 0 ps:=by
 obtain⟨vs,hrow,hvs⟩:=h.row
 rcases hrow.2 with ⟨e,_⟩ | ⟨g',cap',cur,e,hb,hh,h1,h2,h3,h4⟩
 ·cases e
 ·cases e
  refine⟨rfl,h1,hb,⟨cur,hh⟩,fun j hj=> ?_⟩
  obtain⟨b,o,c,q1,q2,q3⟩:=hvs j hj
  refine⟨b,o,c,?_,q2,q3⟩
  have hB:Blk W g 90 cur:=hh
  rw[hB.cell,←Array.getElem?_toList,Nat.zero_add,←List.getElem?_take_of_lt (show j<ps.length*1 by omega),h4]
  exact q1
set_option maxHeartbeats 4000000 in
set_option maxRecDepth 20000 in
theorem steps_any {t:List UInt8}{L:List Mk}{F:Int→List Int}(h:aav t=.ok (L,F)){bd T me ml:Nat}{val:List Int→Value}{E:List Ent}{a:Option Addr}{k c:Nat}{zs X:List Int}{w:World}(hd:DataAt w bd L F)(ht:TabAt w T me ml val E)(hn:Numb w a k c zs)(hX:acq L F zs X)(hfew:zs.length≤1000000000):
  Calls Tryz.prog 124 #[.pointer (some ⟨bd,0,none⟩),.pointer (some ⟨T,0,none⟩),.slice a k c] w fun e w'=> ∃v,e=.returned v∧RowsAt w' w.heap.size v (aax (aaa L) (aaw E) X)∧Below w.heap.size w w':=by
 have hfo:=form_load h hd hn
 have hcls:=afu h
 generalize hR:aax (aaa L) (aaw E) X=R
 have HR:Hid ([]++aax (aaa L) (aaw E) X=R):=hR
 clear hR
 go_enter Tryz.func124,Tryz.ntmps124
 go_wp2_with fail
 refine hfo.mono ?_
 rintro e w1 hpost
 obtain⟨gf,kf,cf,X',rfl,hown,hform,hb1⟩:=hpost.formed
 obtain rfl:X'=X:=FormOf.same hform.form hX
 have hkf:=hown.form1
 subst hkf
 have hXI:=formed_in h hn.int hform
 have hXl:X'.length≤57000000000:=by have:=form_few hd hform zs.length (Nat.le_refl _);omega
 have hd1:=hd.below hb1
 have ht1:=ht.below hb1
 have hcu:=mcut_any hd1 hXI (hown.mono (Nat.zero_le _)) (by omega)
 clear hfo hpost hown
 go_wp2_with fail
 refine hcu.mono ?_
 rintro e w2 ⟨v2,rfl,hpo,hb2⟩
 have hflat:(pcsC (aaa L) X').flatten=X':=byC_flat _ _ (Nat.le_refl _)
 have hrise:Rising (aaa L) 0 (pcsC (aaa L) X'):=byC_rising (fun q=>(hcls q).1) _ _ _ hX.co (fun y _=>by have:=(hcls y).1;omega)
 clear hcu
 obtain⟨a2,n2,c2,rfl⟩: ∃a n c,v2=.slice a n c:=by
  obtain⟨vs,hrow,_⟩:=hpo.row
  obtain⟨a,c,e⟩:=aba hrow
  exact⟨_,_,_,e⟩
 go_wp2_with fail
 have hbA:=(Below.refl w2.heap.size w2).alloc (Nat.le_refl _) (.cells #[.pointer (some ⟨bd,0,none⟩),.pointer (some ⟨T,0,none⟩),.slice a2 n2 c2] 239)
 have hnb:=Blk.new w2 239 #[.pointer (some ⟨bd,0,none⟩),.pointer (some ⟨T,0,none⟩),.slice a2 n2 c2]
 have hsz3:(w2.alloc (.cells #[.pointer (some ⟨bd,0,none⟩),.pointer (some ⟨T,0,none⟩),.slice a2 n2 c2] 239)).heap.size=w2.heap.size+1:=by simp
 generalize (w2.alloc (.cells #[.pointer (some ⟨bd,0,none⟩),.pointer (some ⟨T,0,none⟩),.slice a2 n2 c2] 239))=W3 at hbA hnb hsz3⊢
 have hb13:Below w1.heap.size w1 W3:=hb2.trans (hbA.mono hb2.size)
 have hb03:Below w.heap.size w W3:=hb1.trans (hb13.mono hb1.size)
 have hB1:w1.heap.size≤w2.heap.size:=hb2.size
 generalize hBe:w2.heap.size=B at hnb hsz3 hB1⊢
 cases a2 with
 | none=>
  have hX0:X'=[]:=by
   obtain⟨vs,hrow,_⟩:=hpo.row
   rcases hrow.2 with ⟨e,h0⟩ | ⟨g',cap',cur,e,_⟩
   ·have:pcsC (aaa L) X'=[]:=List.eq_nil_of_length_eq_zero h0
    rw[this] at hflat
    exact hflat.symm
   ·cases e
  obtain⟨rfl,rfl⟩:n2=0∧c2=0:=by
   obtain⟨vs,hrow,_⟩:=hpo.row
   rcases hrow.2 with ⟨e,h0⟩ | ⟨g',cap',cur,e,_⟩
   ·cases e;exact⟨rfl,rfl⟩
   ·cases e
  have hRR:R=[]:=by rw[←HR.out,hX0];rfl
  have hmo:=more_nil B bd T W3 hnb
  clear HR
  go_loopw [8] (fun rv wr=>rv=.slice none 0 0∧wr=W3) (fun _ _=>0)
  case atStart=>exact⟨rfl,rfl⟩
  case round=>
   obtain⟨rfl,rfl⟩:=hrel
   go_wp2_with fail
   refine hmo.mono ?_
   rintro e w4 ⟨rfl,rfl⟩
   go_wp2_with fail
   go_ret
   rw[hRR]
   exact⟨_,rfl,RowsAt.nil _ _,hb03⟩
 | some ad=>
  obtain⟨g,hadd⟩: ∃g,ad=⟨g,0,none⟩:=by
   obtain⟨vs,hrow,_⟩:=hpo.row
   rcases hrow.2 with ⟨e,h0⟩ | ⟨g',cap',cur,e,_⟩
   ·cases e
   ·cases e;exact⟨_,rfl⟩
  subst hadd
  obtain⟨hn2,hnc,hbg,⟨csg,hcg⟩,hpcs⟩:=pcs_of_row hpo
  have hgl:g<w2.heap.size:=hcg.lt
  have hpl2: ∀p∈pcsC (aaa L) X',(∀q∈p,InI q)∧p.length≤X'.length:=fun p hp=>⟨fun q hq=>hXI q (by rw[←hflat];exact List.mem_flatten.2 ⟨p,hp,hq⟩),by
   conv=>rhs;rw[←hflat]
   exact(List.sublist_flatten_of_mem hp).length_le⟩
  have hpn:(pcsC (aaa L) X').length≤X'.length:=byC_len _ _
  have hk3:MWk w1 bd T B g 0 c2 (pcsC (aaa L) X') W3:=by
   refine⟨hb13,by rw[←hn2];exact hnb,by omega,hB1,hbg,⟨csg,hcg.below hbA hgl⟩,?_⟩
   exact hpcs.same (hbA.block g hgl) (fun k hk=>hbA.block k (Nat.lt_of_lt_of_le hk hb2.size))
  have hok3:RestOk (aaa L) (pcsC (aaa L) X'):=⟨fun p hp=>(hpl2 p hp).1,hrise,by omega,fun p hp=>by have:=(hpl2 p hp).2;omega⟩
  have hgB:g<B:=by omega
  have HR3:Hid ([]++aax (aaa L) (aaw E) (pcsC (aaa L) X').flatten=R):=by show _=_;rw[hflat];exact HR.out
  have HL3:Hid (0+(pcsC (aaa L) X').flatten.length≤X'.length):=by show _≤_;rw[hflat];omega
  clear HR hpo hpcs hpl2 hpn hflat hrise hnb hbA hn2 hnc
  generalize pcsC (aaa L) X'=P at*
  go_loopw [8] (fun rv wr=> ∃(off cap:Nat) (ps dn:List (List Int)),MWk w1 bd T B g off cap ps wr∧RestOk (aaa L) ps∧Hid (dn++aax (aaa L) (aaw E) ps.flatten=R)∧Aside (RowsAt wr W3.heap.size rv dn)∧Hid (dn.length+ps.flatten.length≤X'.length)∧W3.heap.size≤wr.heap.size) (fun rv _=>X'.length-sliceLen rv)
  case atStart=>exact⟨0,c2,P,[],hk3,hok3,HR3,RowsAt.nil _ _,HL3,Nat.le_refl _⟩
  case round=>
   clear hk3 hok3 HR3 HL3
   obtain⟨off,cap,ps,dn,hk,hok,HR,HRO,HL,hsz⟩:=hrel
   obtain⟨ra,rc,hrv⟩:=HRO.out.val
   subst hrv
   have hmo:=more_any hk (by have:=hok.len;omega)
   go_wp2_with fail
   refine hmo.mono ?_
   rintro e W4 ⟨b4,off4,cap4,ps4,rfl,hk4,hmv4,⟨n4,hn4⟩,hcase⟩
   have hfl:ps.flatten=ps4.flatten:=by rw[hn4];simp
   have hok4:RestOk (aaa L) ps4:=hok.sub (fun p' hp=>⟨p',by rw[hn4];exact List.mem_append_right _ hp,0,by simp⟩) (rising_rep n4 (by rw[←hn4];exact hok.rise)) (by rw[hn4];simp)
   have hB3:B<W3.heap.size:=by omega
   have hg3:g<W3.heap.size:=by omega
   obtain⟨vs,hrow,hvs⟩:=HRO.out
   have hvl:vs.length=dn.length:=by have:=hrow.1;omega
   rw[hfl] at HR HL
   clear hmo hok hk hn4 hfl HRO
   rcases hcase with ⟨rfl,x,t',r',rfl⟩ | ⟨rfl,rfl⟩
   ·have hst:=step_any hk4 hd1 ht1 hok4 (fun q=>(hcls q).1)
    have hne:((x::t')::r').flatten≠ []:=by simp
    have hsd:=acz (cls:=aaa L) (fnd:=aaw E) hne
    have hlen:=stepD_len (cls:=aaa L) (fnd:=aaw E) ((x::t')::r').flatten
    have hpos:=stepD_pos (cls:=aaa L) (fnd:=aaw E) hne
    generalize acl (aaa L) (aaw E) ((x::t')::r').flatten=S at hst hsd hlen hpos
    have HR2:Hid ((dn++[S.1])++aax (aaa L) (aaw E) S.2=R):=by show _=_;rw[←HR.out,hsd];simp
    have HL2:Hid ((dn++[S.1]).length+S.2.length≤X'.length):=by have h0:=HL.out;show _≤_;rw[←hlen] at h0;rw[List.length_append,List.length_singleton];omega
    have hdl:dn.length<X'.length:=by have:=HL2.out;simp at this;omega
    clear HR HL hsd hlen hpos hne
    go_wp2_with fail
    refine hst.mono ?_
    rintro e W5 ⟨v5,qs,rfl,hown5,hq5,hk5,hok5,hmv5⟩
    have hmv:=hmv4.trans hmv5
    have hs4:W3.heap.size≤W4.heap.size:=Nat.le_trans hsz hmv4.size
    have hs5:W3.heap.size≤W5.heap.size:=Nat.le_trans hs4 hmv5.size
    obtain⟨a5,c5,rfl⟩:=hown5.val
    have hrow5:W5.ownsRow W3.heap.size 90 1 (.slice ra dn.length rc) vs.length vs:=by rw[hvl];exact own_mv hrow hmv hB3 hg3
    have hbA5:=(Below.refl W5.heap.size W5).alloc (Nat.le_refl _) (.cells #[.slice a5 S.1.length c5] 90)
    have hnb5:=Blk.new W5 90 #[.slice a5 S.1.length c5]
    have hszA:W3.heap.size≤(W5.alloc (.cells #[.slice a5 S.1.length c5] 90)).heap.size:=Nat.le_trans hs5 hbA5.size
    have HROW:Aside ((W5.alloc (.cells #[.slice a5 S.1.length c5] 90)).ownsRow W3.heap.size 90 1 (.slice ra dn.length rc) vs.length vs):=aac hrow5 hbA5
    have hvl2:vs.length≤1000000000000:=by omega
    rw[←hq5] at HR2 HL2
    generalize hs1:S.1.length=sn at*
    clear hrow hst
    go_wp2_with (first | (at_builtin;refine acx rfl _ _ rfl W3.heap.size _ vs rfl HROW.out a5 sn c5 ⟨W5.heap.size,0,none⟩ _ rfl (hnb5.cell 0) hvl2 hszA ?_;intro v6 w6 hown6 hgr6 hat6;obtain⟨a6,c6,rfl⟩:=aba hown6))
    have hb6:Below W3.heap.size W5 w6:=((Below.refl W3.heap.size W5).alloc hs5 _).grown hgr6 hszA (fun j hj=>(aah HROW.out hj).1)
    have hk6:=hk5.goN hb6 hB3 hg3 hb13.size
    have hs6:W3.heap.size≤w6.heap.size:=Nat.le_trans hs5 hb6.size
    have hkeep: ∀ {u:Value} {z:List Int},IOwn W5 W3.heap.size u z→IOwn w6 W3.heap.size u z:=fun hu=>aa0 (aac hu hbA5) hgr6 (acu HROW.out (aac hu hbA5) (by decide))
    have HRO6:Aside (RowsAt w6 W3.heap.size (.slice a6 (vs.length+1) c6) (dn++[S.1])):=RowsAt.snoc (fun i hi=>by
     obtain⟨u,q1,q2⟩:=hvs i hi
     exact⟨u,q1,hkeep (own_mv q2 hmv hB3 hg3)⟩) hvl (hkeep (hown5.mono hs4)) hown6
    clear hown6 hgr6 hat6 HROW hkeep
    rw[hvl] at HRO6
    go_roundw
    case rel=>exact⟨off4,cap4,qs,dn++[S.1],hk6,hok5,HR2,HRO6,HL2,hs6⟩
    case measure=>simp only[sliceLen];omega
   ·have hRR:R=dn:=by rw[←HR.out];simp[aea]
    have hfin:RowsAt W4 w.heap.size (.slice ra dn.length rc) R:=by
     rw[hRR]
     exact⟨vs,aae (own_mv hrow hmv4 hB3 hg3) hb03.size,fun i hi=>by
      obtain⟨u,q1,q2⟩:=hvs i hi
      exact⟨u,q1,aae (own_mv q2 hmv4 hB3 hg3) hb03.size⟩⟩
    have hbf:Below w.heap.size w W4:=hb1.trans (hk4.below.mono hb1.size)
    clear HR HL
    go_wp2_with fail
    go_ret
    exact⟨_,rfl,hfin,hbf⟩
end Go.Proofs.YtpfkoldfbecdlaaGreatDoor
