/- Contracts and lemmas (nothing is claimed here). -/
import Derived.Test.YtpfkoldfbecdlaaGreatDoorMSt
import Derived.Test.YtpfkoldfbecdlaaGreatDoorJ8
import Derived.Test.YtpfkoldfbecdlaaGreatDoorJ17
import Derived.Test.YtpfkoldfbecdlaaGreatDoorJ18
namespace Go.Proofs.YtpfkoldfbecdlaaGreatDoor
open Go.RowKit Go.Vf Go.Maps
def flatS (vs:List (Value×Value)):List Value:=vs.flatMap fun p=>[p.1,p.2]
theorem flatS_snoc (vs:List (Value×Value))(p e:Value):flatS (vs++[(p,e)])=flatS vs++[p,e]:=by simp[flatS]
theorem flatS_at: ∀(vs:List (Value×Value)) (j:Nat) (hj:j<vs.length),(flatS vs)[j*2]? =some vs[j].1∧(flatS vs)[j*2+1]? =some vs[j].2:=by
 intro vs
 induction vs with
 | nil=>intro j hj;simp at hj
 | cons a r ih=>
  intro j hj
  have e:flatS (a::r)=a.1::a.2::flatS r:=by simp[flatS]
  cases j with
  | zero=>rw[e];exact⟨rfl,rfl⟩
  | succ j=>
   have h:=ih j (by simpa using hj)
   rw[e,show(j+1)*2=j*2+1+1 by omega]
   simpa using h
theorem info47:(Tryz.prog.info? 209).map (fun i=>(i.zero,i.size,i.bytes))=some (some (.agg #[.slice none 0 0,.slice none 0 0]),2,48):=by kernel_rfl
theorem wpList_append_step {w:World}{ops:Array Oper}{rest:List Oper}{o:Oper}{a:Act}{Q:Exit→Act→World→Prop}(hgd:o.guard=none)(s x:Operand)
  (ho:o.op=.call {callee:=.builtin .append,args:= #[s,x],argTypes:= #[206,206]})
  (base:Nat) (v:Value) (n:Nat) (xs:List Value) (hs:a.eval s=v) (hown:w.ownsRow base 209 2 v n xs) (ad:Addr) (c:Nat) (u1 u2:Value) (hx:a.eval x=.slice (some ad) 1 c)
  (hc:w.cell? (ad.add 0)=some u1∧w.cell? (ad.add 1)=some u2) (h1:u1.oneCell'=true∧u2.oneCell'=true) (hlen:n≤4194304) (hbase:base≤w.heap.size)
  (h: ∀a' c' w',w'.ownsRow base 209 2 (.slice a' (n+1) c') (n+1) (xs++[u1,u2])→w.grownBy w' v.ownBlock→((Value.slice a' (n+1) c').ownBlock=v.ownBlock∨(Value.slice a' (n+1) c').ownBlock=some w.heap.size)→wpList Tryz.prog ops Q rest (a.put o.dst (.slice a' (n+1) c')) w'):
  wpList Tryz.prog ops Q (o::rest) a w:=by
 obtain⟨i,hi,hz,hsz,hby⟩:=info_parts info47
 refine wpList_append_own_at (P:=Tryz.prog) _ hgd s x 206 ho base 209 i _ 2 48 Tryz.underlying206 hi hz hsz hby rfl (by decide) v n xs hs hown ad 1 c [u1,u2] hx rfl ?_ ?_ ?_ ?_ ?_ ?_
 ·intro j u hu
  match j,hu with
  | 0,hu=>simp at hu;subst hu;exact hc.1
  | 1,hu=>simp at hu;subst hu;exact hc.2
 ·intro u hu
  simp at hu
  rcases hu with rfl | rfl
  ·exact h1.1
  ·exact h1.2
 ·unfold maxLen;omega
 ·omega
 ·omega
 ·intro v' w' q1 q2 _ q4
  obtain⟨a',c',rfl⟩:=aba q1
  exact h a' c' w' q1 q2 q4
structure StepsAt (n₀:Nat)(W:World)(base:Nat)(v:Value)(rs:List (List Int))(l:List Ent)(vs:List (Value×Value)):Prop where
 len:vs.length=rs.length
 row:W.ownsRow base 209 2 v rs.length (flatS vs)
 pts: ∀j (h1:j<vs.length) (h2:j<rs.length),IOwn W base vs[j].1 rs[j]
 els: ∀j (h1:j<vs.length) (h2:j<rs.length),Els n₀ W vs[j].2 (af7 l rs[j])∨EOwn W base vs[j].2 (af7 l rs[j])
 one: ∀p∈vs,(∃a n c,p.1=.slice a n c)∧ ∃a n c,p.2=.slice a n c
section
variable {n₀:Nat}{W W':World}{base:Nat}{v:Value}{rs:List (List Int)}{l:List Ent}{vs:List (Value×Value)}
theorem StepsAt.nil:StepsAt n₀ W base (.slice none 0 0) [] l []:=⟨rfl,World.ownsRow_nil _ _ _ _,fun j h=>absurd h (by simp),fun j h=>absurd h (by simp),fun p h=>by simp at h⟩
theorem StepsAt.go (h:StepsAt n₀ W base v rs l vs)(hb:Below W.heap.size W W')(hn:n₀≤W.heap.size):StepsAt n₀ W' base v rs l vs:=
 ⟨h.len,aac h.row hb,fun j h1 h2=>aac (h.pts j h1 h2) hb,fun j h1 h2=>(h.els j h1 h2).imp (fun q=>q.below hb hn) (fun q=>aac q hb),h.one⟩
end
theorem StepsAt.low {n₀ base b2:Nat}{W:World}{v:Value}{rs:List (List Int)}{l:List Ent}{vs:List (Value×Value)}(h:StepsAt n₀ W base v rs l vs)(hb:b2≤base):StepsAt n₀ W b2 v rs l vs:=
 ⟨h.len,aae h.row hb,fun j h1 h2=>aae (h.pts j h1 h2) hb,fun j h1 h2=>(h.els j h1 h2).imp id (fun q=>aae q hb),h.one⟩
theorem StepsAt.snoc {n₀ base:Nat}{W W':World}{v v':Value}{rs:List (List Int)}{l:List Ent}{vs:List (Value×Value)}(h:StepsAt n₀ W base v rs l vs)(hg:W.grownBy W' v.ownBlock)(hn:n₀≤base){a1 a2:Option Addr}{m1 m2 c1 c2:Nat}{r:List Int}(hr:IOwn W' base (.slice a1 m1 c1) r)(he:Els n₀ W' (.slice a2 m2 c2) (af7 l r)∨EOwn W' base (.slice a2 m2 c2) (af7 l r))(hrow:W'.ownsRow base 209 2 v' (rs.length+1) (flatS vs++[.slice a1 m1 c1,.slice a2 m2 c2])):StepsAt n₀ W' base v' (rs++[r]) l (vs++[(.slice a1 m1 c1,.slice a2 m2 c2)]):=by
 have hb: ∀k,k<base→k<W.heap.size→W'.heap[k]? =W.heap[k]?:=fun k hk hk2=>hg.block k hk2 (fun e=>by have:=(aah h.row e.symm).1;omega)
 have hels: ∀ {u:Value} {x:List El},Els n₀ W u x→Els n₀ W' u x:=fun {u x} q=>by
  rcases q with q | ⟨b,off,cap,e,q1,q2⟩
  ·exact .inl q
  ·refine .inr ⟨b,off,cap,e,q1,fun j hj=> ?_⟩
   obtain⟨z0,z1,z2,z3⟩:=q2 j hj
   have hlt:b<W.heap.size:=by
    simp only[World.cell?] at z0
    by_cases hx:b<W.heap.size
    ·exact hx
    ·rw[Array.getElem?_eq_none (by omega)] at z0;simp at z0
   have hq:=fun o=>World.cell?_of_block (w:=W) (w':=W') (a:=⟨b,o,none⟩) (hb b (by omega) hlt)
   exact⟨(hq _).trans z0,(hq _).trans z1,(hq _).trans z2,(hq _).trans z3⟩
 refine⟨by simp[h.len],by rw[flatS_snoc];simpa using hrow,fun j h1 h2=> ?_,fun j h1 h2=> ?_,fun p hp=> ?_⟩
 ·rcases Nat.lt_or_ge j vs.length with q | q
  ·have q2:j<rs.length:=by have:=h.len;omega
   rw[List.getElem_append_left q,List.getElem_append_left q2]
   exact aa0 (h.pts j q q2) hg (acu h.row (h.pts j q q2) (by decide))
  ·obtain rfl:j=vs.length:=by simp at h1;omega
   simp only[List.getElem_append_right (Nat.le_refl _),Nat.sub_self,List.getElem_cons_zero]
   have e2:(rs++[r])[vs.length]'h2=r:=by
    have:(rs++[r])[vs.length]? =some r:=by rw[h.len];simp
    exact(List.getElem?_eq_some_iff.1 this).2
   rw[e2]
   exact hr
 ·rcases Nat.lt_or_ge j vs.length with q | q
  ·have q2:j<rs.length:=by have:=h.len;omega
   rw[List.getElem_append_left q,List.getElem_append_left q2]
   exact(h.els j q q2).imp hels (fun z=>aa0 z hg (acu h.row z (by decide)))
  ·obtain rfl:j=vs.length:=by simp at h1;omega
   simp only[List.getElem_append_right (Nat.le_refl _),Nat.sub_self,List.getElem_cons_zero]
   have e2:(rs++[r])[vs.length]'h2=r:=by
    have:(rs++[r])[vs.length]? =some r:=by rw[h.len];simp
    exact(List.getElem?_eq_some_iff.1 this).2
   rw[e2]
   exact he
 ·rcases List.mem_append.1 hp with q | q
  ·exact h.one p q
  ·obtain rfl:p=_:=by simpa using q
   exact⟨⟨_,_,_,rfl⟩,_,_,_,rfl⟩
set_option maxHeartbeats 16000000 in
set_option maxRecDepth 20000 in
theorem refAll_any {t:List UInt8}{L:List Mk}{F:Int→List Int}(h:aav t=.ok (L,F)){da:Option Addr}{dn dc:Nat}{l:List Ent}{tv:Value}{a:Option Addr}{k c:Nat}{zs X:List Int}{w:World}(hin:MIn w.heap.size w (.slice da dn dc) (aap L))(ht:RT w.heap.size w tv l)(hz:Numb w a k c zs)(h57: ∀q,(aao F q).length≤57∧0<(aao F q).length)(hzl:zs.length≤2097152)(hX:acq L F zs X)(hXl:X.length≤4000000):
  Calls Tryz.prog 127 #[.agg #[.slice da dn dc],.agg #[tv],.slice a k c] w fun e w'=> ∃v vs,e=.returned v∧StepsAt w.heap.size w' w.heap.size v (aax (aaa L) (aaw l) X) l vs∧Below w.heap.size w w':=by
 obtain⟨va,vc,rfl⟩:=ht.inn.val
 obtain⟨ln,hln⟩: ∃ln,l.length=ln:=⟨_,rfl⟩
 rw[hln] at ht
 have hbA:=(Below.refl w.heap.size w).alloc (Nat.le_refl _) (.cells #[.slice da dn dc] 28)
 have hb0:=hbA.alloc (by simp) (.cells #[.slice va ln vc] 31)
 have hD1:=Blk.new w 28 #[.slice da dn dc]
 have hT1:=Blk.new (w.alloc (.cells #[.slice da dn dc] 28)) 31 #[.slice va ln vc]
 rw[show (w.alloc (.cells #[.slice da dn dc] 28)).heap.size=w.heap.size+1 by simp] at hT1
 have hD2:Blk ((w.alloc (.cells #[.slice da dn dc] 28)).alloc (.cells #[.slice va ln vc] 31)) w.heap.size 28 #[.slice da dn dc]:=(Below.heap_alloc _ _ _ (by simp)).trans hD1
 have hfo:=rform_load h a k c zs ((w.alloc (.cells #[.slice da dn dc] 28)).alloc (.cells #[.slice va ln vc] 31)) (hin.go hb0) (hz.below hb0) h57 hzl
 clear hbA hD1
 obtain⟨R,hR⟩: ∃R,R=aax (aaa L) (aaw l) X:=⟨_,rfl⟩
 have HR:Hid (R=aax (aaa L) (aaw l) X):=hR
 rw[←hR]
 have hXlen:Hid (X.length≤4000000):=hXl
 have HX:Hid (acq L F zs X):=hX
 go_enter Tryz.func127,Tryz.ntmps127
 go_upto_region 1 with fail
 generalize (w.alloc (.cells #[.slice da dn dc] 28)).alloc (.cells #[.slice va ln vc] 31)=W at hb0 hD2 hT1 hfo⊢
 have hwz:=hb0.size
 have HBW:Hid (Below w.heap.size w W):=hb0
 have HC:Hid (∀x,Below W.heap.size W x→x.cell? ⟨w.heap.size,0,none⟩=some (.slice da dn dc)∧x.cell? ⟨w.heap.size+1,0,none⟩=some (.slice va ln vc)):=fun x hx=>⟨(hx.cell (p:=⟨w.heap.size,0,none⟩) hD2.lt).trans (hD2.cell 0),(hx.cell (p:=⟨w.heap.size+1,0,none⟩) hT1.lt).trans (hT1.cell 0)⟩
 have HSP:Hid (∀x,Below w.heap.size w x→ ∀(b off cap:Nat) (zs:List Int),Sl x.heap.size x b off cap zs→zs≠ []→zs.length≤4000000→Calls Tryz.prog 170 #[.agg #[.slice da dn dc],.agg #[.slice va ln vc],.slice (some ⟨b,off,none⟩) zs.length cap] x fun e w'=>StepPost w.heap.size l (acl (aaa L) (aaw l) zs) x e w'):=fun x hx b off cap zs h1 h2 h3=>refStep_any h hx.size (hin.go hx) (ht.below hx (Nat.le_refl _)) h1 h2 h3
 have c0:=(HC.out W (Below.refl _ _)).1
 clear hD2 hT1 hb0 hln hin ht hz h57 hX hXl hR
 go_wp2_with fail
 refine hfo.mono ?_
 clear hfo c0
 rintro e w1 ⟨fa,fn,fc,X',rfl,hown,hform,hb1⟩
 obtain rfl:X'=X:=FormOf.same hform HX.out
 have HB1:Hid (Below W.heap.size W w1):=hb1
 have HLF:Hid (LeftIs w1 (.slice fa fn fc) X'):=by
  by_cases hx:X'=[]
  ·subst hx
   rcases hown.form with ⟨e,_⟩ | ⟨g,cap,e,_⟩
   ·cases e;exact⟨_,_,rfl,fun h=>absurd rfl h⟩
   ·cases e;exact⟨_,_,rfl,fun h=>absurd rfl h⟩
  ·exact LeftIs.own hown hx
 have HR0:Hid ([]++aax (aaa L) (aaw l) X'=R):=HR.out.symm
 have HRL:Hid (R.length≤4000000):=by
  show _≤_
  rw[HR.out]
  exact Nat.le_trans (abz X') hXlen.out
 clear hown hform hb1 HX HR
 go_wp2_with fail
 go_loopw [7,8] (fun rv ov wr=> ∃(ra:Option Addr) (rn rc:Nat) (rest:List Int) (oa:Option Addr) (on oc:Nat) (rs:List (List Int)) (vs:List (Value×Value)),rv=.slice ra rn rc∧ov=.slice oa on oc∧rn≤4000000∧Hid (rn=rest.length)∧Hid (on=rs.length)∧Hid (LeftIs wr (.slice ra rn rc) rest)∧Hid (StepsAt w.heap.size wr W.heap.size (.slice oa on oc) rs l vs)∧Hid (rs++aax (aaa L) (aaw l) rest=R)∧Hid (Below W.heap.size W wr)) (fun rv _ _=>sliceLen rv)
 case atStart=>exact⟨fa,fn,fc,X',none,0,0,[],[],rfl,rfl,by
  obtain⟨a',c',e,_⟩:=HLF.out
  obtain⟨_,rfl,_⟩:=Value.slice.inj e
  exact hXlen.out,by
  obtain⟨a',c',e,_⟩:=HLF.out
  exact(Value.slice.inj e).2.1,rfl,HLF.out,StepsAt.nil,HR0.out,HB1.out⟩
 case round=>
  clear HLF HR0 HB1 hXlen
  obtain⟨ra,rn,rc,rest,oa,on,oc,rs,vs,rfl,rfl,hrn,HRN,HON,HLF,HST,HRR,HBR⟩:=hrel
  have HBw:Hid (Below w.heap.size w wr):=HBW.out.trans (HBR.out.mono HBW.out.size)
  by_cases h0:rn=0
  ·subst h0
   have hre:rest=[]:=List.eq_nil_of_length_eq_zero HRN.out.symm
   have hRR:rs=R:=by
    have:=HRR.out
    rw[hre,aea] at this
    simpa using this
   clear HRR HRN
   go_wp2_with fail
   go_ret
   exact⟨_,vs,rfl,hRR▸HST.out.low hwz,HBw.out⟩
  ·have hpos:(0:Int)<(rn:Int):=by omega
   have hne:rest≠ []:=fun e=>h0 (by rw[HRN.out,e];rfl)
   obtain⟨b,off,rfl,hsl⟩: ∃b off,ra=some ⟨b,off,none⟩∧Sl wr.heap.size wr b off rc rest:=by
    obtain⟨a',c',e,h⟩:=HLF.out
    obtain⟨rfl,_,rfl⟩:=Value.slice.inj e
    exact h hne
   have hstp:=HSP.out wr HBw.out b off rc rest hsl hne (by rw[←HRN.out];exact hrn)
   rw[←HRN.out] at hstp
   obtain⟨c0,c1⟩:=HC.out wr HBR.out
   have hsd:=acz (cls:=aaa L) (fnd:=aaw l) hne
   have hsh:=aei (cls:=aaa L) (fnd:=aaw l) hne
   have HR2:Hid ((rs++[(acl (aaa L) (aaw l) rest).1])++aax (aaa L) (aaw l) (acl (aaa L) (aaw l) rest).2=R):=by
    show _=_
    rw[←HRR.out,hsd]
    simp
   have HSH:Hid ((acl (aaa L) (aaw l) rest).2.length<rn):=by rw[HRN.out];exact hsh
   clear hsd hsh hsl hne HLF HRR
   generalize acl (aaa L) (aaw l) rest=G at hstp HR2 HSH
   clear HRN
   go_wp2_with fail
   refine hstp.mono ?_
   clear hstp c0 c1
   rintro e w2 ⟨hb2,rv,ev,lv,rfl,hr2,he2,hl2⟩
   obtain⟨pa,pc,rfl⟩:=hr2.val
   obtain⟨ea,ec,rfl⟩: ∃a c,ev=.slice a (af7 l G.1).length c:=by
    rcases he2 with h | h
    ·exact h.val
    ·exact h.els.val
   obtain⟨la,lc,hlv,_⟩:=hl2
   subst hlv
   have HB2:Hid (Below wr.heap.size wr w2):=hb2
   have HST2:Hid (StepsAt w.heap.size w2 W.heap.size (.slice oa on oc) rs l vs):=HST.out.go hb2 HBw.out.size
   have HRW2:Hid (IOwn w2 W.heap.size (.slice pa G.1.length pc) G.1):=aae hr2 HBR.out.size
   have HEL2:Hid (Els w.heap.size w2 (.slice ea (af7 l G.1).length ec) (af7 l G.1)∨EOwn w2 W.heap.size (.slice ea (af7 l G.1).length ec) (af7 l G.1)):=he2.imp id (fun q=>aae q HBR.out.size)
   have HLF2:Hid (LeftIs w2 (.slice la G.2.length lc) G.2):=⟨_,_,rfl,by assumption⟩
   have HBW2:Hid (Below W.heap.size W w2):=HBR.out.trans (hb2.mono HBR.out.size)
   have HBw2:Hid (Below w.heap.size w w2):=HBw.out.trans (hb2.mono HBw.out.size)
   clear hr2 he2 hb2 HST HBR HBw HB2
   generalize hg1:G.1.length=g1 at*
   generalize hg2:G.2.length=g2 at*
   generalize hg3:(af7 l G.1).length=g3 at*
   have hbX:=(Below.refl w2.heap.size w2).alloc (Nat.le_refl _) (.cells #[.slice pa g1 pc,.slice ea g3 ec] 209)
   have hX1:=Blk.new w2 209 #[.slice pa g1 pc,.slice ea g3 ec]
   have hbY:=hbX.alloc (by simp) (.cells #[.slice pa g1 pc,.slice ea g3 ec] 209)
   have hY1:=Blk.new (w2.alloc (.cells #[.slice pa g1 pc,.slice ea g3 ec] 209)) 209 #[.slice pa g1 pc,.slice ea g3 ec]
   have hzX:(w2.alloc (.cells #[.slice pa g1 pc,.slice ea g3 ec] 209)).heap.size=w2.heap.size+1:=by simp
   rw[hzX] at hY1
   have x0:=hX1.cell 0
   have x1:=hX1.cell 1
   have y0:=hY1.cell 0
   have y1:=hY1.cell 1
   have HOA:Hid (((w2.alloc (.cells #[.slice pa g1 pc,.slice ea g3 ec] 209)).alloc (.cells #[.slice pa g1 pc,.slice ea g3 ec] 209)).ownsRow W.heap.size 209 2 (.slice oa on oc) on (flatS vs)):=by
    have:=aac HST2.out.row hbY
    show World.ownsRow _ _ _ _ _ _ _
    rw[HON.out] at this⊢
    exact this
   have HBY:Hid _:=hbY
   have hwY:W.heap.size≤((w2.alloc (.cells #[.slice pa g1 pc,.slice ea g3 ec] 209)).alloc (.cells #[.slice pa g1 pc,.slice ea g3 ec] 209)).heap.size:=Nat.le_trans HBW2.out.size HBY.out.size
   have hon:on≤4194304:=by
    have h1:=congrArg List.length HR2.out
    simp only[List.length_append,List.length_cons,List.length_nil] at h1
    have h2:=HRL.out
    have h3:=HON.out
    omega
   have HG2:Hid (g2=G.2.length):=hg2.symm
   clear hbX hX1 hbY hY1 hzX hg1 hg2 hg3
   go_wp2_with (at_builtin;refine wpList_append_step rfl _ _ rfl W.heap.size _ on (flatS vs) rfl HOA.out ⟨w2.heap.size+1,0,none⟩ _ (.slice pa g1 pc) (.slice ea g3 ec) rfl ⟨y0,y1⟩ ⟨rfl,rfl⟩ hon hwY ?_;intro a7 c7 w7 hrow7 hgr7 hat7;have HR7:Hid _:=hrow7;have HG7:Hid _:=hgr7;clear hrow7 hgr7 hat7)
   have hB7:Below w.heap.size w2 w7:=(HBY.out.mono HBw2.out.size).grown HG7.out (Nat.le_trans hwz hwY) (fun j hj=>Nat.le_trans hwz (aah HOA.out hj).1)
   have HST7:Hid (StepsAt w.heap.size w7 W.heap.size (.slice a7 (on+1) c7) (rs++[G.1]) l (vs++[(.slice pa g1 pc,.slice ea g3 ec)])):=by
    refine(HST2.out.go HBY.out HBw2.out.size).snoc HG7.out hwz ?_ ?_ ?_
    ·exact aa0 (aac HRW2.out HBY.out) HG7.out (acu HOA.out (aac HRW2.out HBY.out) (by decide))
    ·exact HEL2.out.imp (fun q=>q.below hB7 (Nat.le_refl _)) (fun q=>aa0 (aac q HBY.out) HG7.out (acu HOA.out (aac q HBY.out) (by decide)))
    ·have:=HR7.out
     rw[HON.out] at this⊢
     exact this
   have HLF7:Hid (LeftIs w7 (.slice la g2 lc) G.2):=by
    obtain⟨a',c',e,hq⟩:=HLF2.out
    refine⟨a',c',e,fun hne=> ?_⟩
    obtain⟨b',off',q1,q2⟩:=hq hne
    obtain⟨cs,f,q3⟩:=q2.ty
    have hlt:=q2.lt
    have hsame:w7.heap[b']? =w2.heap[b']?:=by
     have hY2:=HBY.out.block b' hlt
     refine(HG7.out.block b' (Nat.lt_of_lt_of_le hlt HBY.out.size) (fun e2=> ?_)).trans hY2
     obtain⟨_,cs2,f2,q4⟩:=aah HOA.out e2.symm
     rw[hY2,q3] at q4
     simp at q4
    exact⟨b',off',q1,Nat.lt_of_lt_of_le hlt hB7.size,q2.cap,fun j hj=>(World.cell?_of_block hsame).trans (q2.cells j hj),cs,f,hsame.trans q3⟩
   have HB7:Hid (Below W.heap.size W w7):=(HBW2.out.trans (HBY.out.mono HBW2.out.size)).grown HG7.out (Nat.le_trans HBW2.out.size HBY.out.size) (fun j hj=>(aah HOA.out hj).1)
   clear HR7 HG7 HOA HBY HRW2 HEL2 HST2 HLF2 HBW2 HBw2 x0 x1 y0 y1 hwY hB7
   go_roundw
   case rel=>exact⟨la,g2,lc,G.2,a7,on+1,c7,rs++[G.1],_,rfl,rfl,by have:=HSH.out;omega,HG2.out,by show _=_;rw[List.length_append,HON.out];rfl,HLF7.out,HST7.out,HR2.out,HB7.out⟩
   case measure=>have:=HSH.out;simp only[sliceLen];omega
end Go.Proofs.YtpfkoldfbecdlaaGreatDoor
namespace Go.Proofs.YtpfkoldfbecdlaaGreatDoor
open Go.RowKit Go.Vf Go.Maps Go.Deep
set_option maxHeartbeats 8000000 in
set_option maxRecDepth 20000 in
theorem relements_any {t:List UInt8}{L:List Mk}{F:Int→List Int}(h:aav t=.ok (L,F)){da:Option Addr}{dn dc:Nat}{l:List Ent}(hok: ∀e∈l,EntOk e){tv:Value}{a:Option Addr}{k c:Nat}{zs X:List Int}{w:World}(hin:MIn w.heap.size w (.slice da dn dc) (aap L))(ht:RT w.heap.size w tv l)(hz:Numb w a k c zs)(h57: ∀q,(aao F q).length≤57∧0<(aao F q).length)(hzl:zs.length≤2097152)(hX:acq L F zs X)(hXl:X.length≤4000000):
  Calls Tryz.prog 84 #[.agg #[.slice da dn dc],.agg #[tv],.slice a k c] w fun e w'=> ∃v,e=.returned v∧EOwn w' w.heap.size v (ad2 l (aax (aaa L) (aaw l) X))∧Below w.heap.size w w':=by
 obtain⟨va,vc,rfl⟩:=ht.inn.val
 obtain⟨ln,hln⟩: ∃ln,l.length=ln:=⟨_,rfl⟩
 rw[hln] at ht
 have hbA:=(Below.refl w.heap.size w).alloc (Nat.le_refl _) (.cells #[.slice da dn dc] 28)
 have hb0:=hbA.alloc (by simp) (.cells #[.slice va ln vc] 31)
 have hD1:=Blk.new w 28 #[.slice da dn dc]
 have hT1:=Blk.new (w.alloc (.cells #[.slice da dn dc] 28)) 31 #[.slice va ln vc]
 rw[show (w.alloc (.cells #[.slice da dn dc] 28)).heap.size=w.heap.size+1 by simp] at hT1
 have hD2:Blk ((w.alloc (.cells #[.slice da dn dc] 28)).alloc (.cells #[.slice va ln vc] 31)) w.heap.size 28 #[.slice da dn dc]:=(Below.heap_alloc _ _ _ (by simp)).trans hD1
 have hal:=refAll_any h (hin.go hb0) (RT.mono (ht.below hb0 (Nat.le_refl _)) hb0.size) (hz.below hb0) h57 hzl hX hXl
 have hrl:=abz (cls:=aaa L) (fnd:=aaw l) X
 generalize aax (aaa L) (aaw l) X=rs at hal hrl⊢
 generalize hR:ad2 l rs=R
 have HR:Hid ([]++ad2 l (rs.drop 0)=R):=by show _=_;simpa using hR
 clear hR hbA hD1
 go_enter Tryz.func84,Tryz.ntmps84
 go_upto_region 1 with fail
 generalize (w.alloc (.cells #[.slice da dn dc] 28)).alloc (.cells #[.slice va ln vc] 31)=W at hb0 hD2 hT1 hal⊢
 have c0:W.cell? ⟨w.heap.size,0,none⟩=some (.slice da dn dc):=hD2.cell 0
 have c1:W.cell? ⟨w.heap.size+1,0,none⟩=some (.slice va ln vc):=hT1.cell 0
 have hwW:=hb0.size
 clear hD2 hT1 hln hin ht hz h57 hX
 go_wp2_with fail
 refine hal.mono ?_
 clear hal c0 c1
 rintro e w1 ⟨v1,vs,rfl,hst,hb1⟩
 have hvl:=hst.len
 obtain⟨aa,ac,hvv,_⟩: ∃a c,v1=.slice a rs.length c∧True:=by
  obtain⟨a',c',e⟩:=aba hst.row
  exact⟨a',c',e,trivial⟩
 subst hvv
 have HST:Aside (StepsAt W.heap.size w1 W.heap.size (.slice aa rs.length ac) rs l vs):=hst
 have hWs:=hb1.size
 generalize hnl:rs.length=n at*
 have HN:Hid (rs.length=n):=hnl
 clear hst hnl
 go_wp2_with fail
 go_loopw [8,9] (fun ov iv wr=> ∃(i:Nat) (acc:List El),i≤n∧iv=.int .i64 i∧Aside (EOwn wr w1.heap.size ov acc)∧Hid (acc++ad2 l (rs.drop i)=R)∧Hid (acc.length≤16*i∧ ∃a n c,ov=.slice a n c)∧Below w1.heap.size w1 wr) (fun _ iv _=>n-(intOf iv).toNat)
 case atStart=>exact⟨0,[],by omega,rfl,EOwn.nil _ _,HR,⟨by simp,_,_,_,rfl⟩,Below.refl _ _⟩
 case round=>
  clear HR
  obtain⟨i,acc,hi,rfl,HO,HR,HA,hbr⟩:=hrel
  obtain⟨la,ln',lc,rfl⟩:=HA.out.2
  by_cases hlt:i<n
  ·have h2:i<rs.length:=by rw[HN.out];exact hlt
   have h1:i<vs.length:=by rw[HST.out.len];exact h2
   obtain⟨g,rfl,hg1⟩: ∃g,aa=some ⟨g,0,none⟩∧w1.cell? ⟨g,i*2+1,none⟩=some vs[i].2:=by
    rcases HST.out.row.2 with ⟨_,h0⟩ | ⟨g,cap,cur,q,_⟩
    ·rw[HN.out] at h0;omega
    ·obtain⟨q1,-,-⟩:=Value.slice.inj q
     subst q1
     have hc:=World.ownsRow.cells (g:=g) HST.out.row rfl
     obtain⟨f1,f2⟩:=flatS_at vs i h1
     have r2:=hc _ _ f2
     rw[Go.WideShapes.add_plain,Nat.zero_add] at r2
     exact⟨g,rfl,r2⟩
   obtain⟨_,xa2,xn2,xc2,hp2⟩:=HST.out.one _ (List.getElem_mem h1)
   have hels:Els w1.heap.size w1 vs[i].2 (af7 l rs[i]):=by
    rcases HST.out.els i h1 h2 with q | q
    ·exact q.mono hWs
    ·exact EOwn.els q
   rw[hp2] at hg1 hels
   have hgl:g<w1.heap.size:=World.block_lt_of_cell? w1 _ hg1
   have hcr:=(hbr.cell (p:=⟨g,i*2+1,none⟩) hgl).trans hg1
   have hdr:rs.drop i=rs[i]::rs.drop (i+1):=List.drop_eq_getElem_cons h2
   have HR2:Hid ((acc++af7 l rs[i])++ad2 l (rs.drop (i+1))=R):=by
    show _=_
    rw[←HR.out,hdr,List.append_assoc]
    rfl
   have hel:=elOf_len hok rs[i]
   have HE:Aside (Els wr.heap.size wr (.slice xa2 xn2 xc2) (af7 l rs[i])):=(hels.below hbr (Nat.le_refl _)).mono hbr.size
   generalize af7 l rs[i]=ie at HE HR2 hel
   have hlen1:acc.length≤16*i:=HA.out.1
   have hsum:acc.length+ie.length≤4000000000000:=by omega
   have hsr:=hbr.size
   have hln2:ln'=acc.length:=by obtain⟨_,_,e,_⟩:=HO.out.cap;exact(Value.slice.inj e).2.1
   subst hln2
   clear hels hg1 hdr hp2 HR
   go_wp2_with (first | (at_builtin;refine ack rfl _ _ rfl w1.heap.size _ acc rfl HO.out ie _ _ rfl HE.out hsum hsr ?_;intro a5 c5 w5 hown5 hb5 _))
   have HO5:Aside (EOwn w5 w1.heap.size (.slice a5 (acc.length+ie.length) c5) (acc++ie)):=hown5
   have hb15:Below w1.heap.size w1 w5:=hbr.trans hb5
   clear hown5
   go_roundw
   case rel=>exact⟨i+1,acc++ie,by omega,by simp,HO5,HR2,⟨by simp;omega,_,_,_,rfl⟩,hb15⟩
   case measure=>simp only[intOf];omega
  ·have hRR:R=acc:=by rw[←HR.out,List.drop_of_length_le (by rw[HN.out];omega)];simp[ad2]
   clear HR
   go_wp2_with fail
   go_ret
   rw[hRR]
   exact⟨_,rfl,aae HO.out (Nat.le_trans hwW hWs),hb0.trans ((hb1.trans (hbr.mono hWs)).mono hwW)⟩
end Go.Proofs.YtpfkoldfbecdlaaGreatDoor
namespace Go.Proofs.YtpfkoldfbecdlaaGreatDoor
open Go.RowKit Go.Vf Go.Maps
theorem cut_last (cls:Int→Int)(c:Int): ∀l:List Int,∃P Q,l=P++Q∧(∀q∈Q,c<cls q)∧ ∀p,P.getLast? =some p→cls p≤c:=by
 intro l
 induction l with
 | nil=>exact⟨[],[],rfl,by simp,by simp⟩
 | cons x t ih=>
  obtain⟨P,Q,rfl,hQ,hP⟩:=ih
  by_cases hp:P=[]
  ·subst hp
   by_cases hx:c<cls x
   ·exact⟨[],x::Q,rfl,fun q hq=>(List.mem_cons.1 hq).elim (fun e=>e▸hx) (hQ q),by simp⟩
   ·exact⟨[x],Q,rfl,hQ,fun p hp=>by simp at hp;subst hp;omega⟩
  ·exact⟨x::P,Q,rfl,hQ,fun p hp'=>hP p (by cases P with | nil=>exact absurd rfl hp | cons a r=>simpa using hp')⟩
theorem form_exists {cls:Int→Int}(hc0: ∀x,0≤cls x): ∀l:List Int,∃X,FormOf cls l X∧X.length=l.length∧ ∀x∈X,x∈l:=by
 have key: ∀(n:Nat) (l:List Int),l.length=n→ ∃X,FormOf cls l X∧X.length=l.length∧ ∀x∈X,x∈l:=by
  intro n
  induction n with
  | zero=>intro l h;rw[List.eq_nil_of_length_eq_zero h];exact⟨[],⟨trivial,Alike0.refl _⟩,rfl,by simp⟩
  | succ n ih=>
   intro l h
   have hne:l≠ []:=fun e=>by rw[e] at h;cases h
   obtain⟨t,x,rfl⟩: ∃t x,l=t++[x]:=⟨l.dropLast,l.getLast hne,(List.dropLast_concat_getLast hne).symm⟩
   obtain⟨X,hX,hl,hm⟩:=ih t (by simpa using h)
   by_cases hx:cls x=0
   ·refine⟨X++[x],⟨CO.append hX.co trivial (fun a b _ hb h0=> ?_),hX.al.append (Alike0.refl _)⟩,by simp[hl],fun y hy=> ?_⟩
    ·simp at hb;subst hb;exact absurd hx h0
    ·rcases List.mem_append.1 hy with h | h
     ·exact List.mem_append_left _ (hm y h)
     ·exact List.mem_append_right _ h
   ·obtain⟨P,Q,rfl,hQ,hP⟩:=cut_last cls (cls x) X
    have hco:CO cls (P++([x]++Q)):=by
     refine CO.append hX.co.left (CO.append (u:=[x]) trivial hX.co.right (fun a b ha hb _=> ?_)) (fun a b ha hb _=> ?_)
     ·simp at ha;subst ha
      have:b∈Q:=List.mem_of_mem_head? hb
      exact Int.le_of_lt (hQ b this)
     ·simp at hb;subst hb;exact hP a ha
    have hal:Alike0 cls (P++Q++[x]) (P++([x]++Q)):=by
     rw[List.append_assoc]
     refine(Alike0.refl P).append (fun k=> ?_)
     have hq0: ∀q∈Q,cls q≠0∧cls q≠cls x:=fun q hq=>by have:=hQ q hq;have:=hc0 x;omega
     rw[List.filter_append,List.filter_append]
     by_cases hk:cls x=k
     ·have e:Q.filter (fun z=>cls z==0||cls z==k)=[]:=by
       rw[List.filter_eq_nil_iff]
       intro q hq
       have:=hq0 q hq
       simp
       omega
      rw[e];simp
     ·have e: [x].filter (fun z=>cls z==0||cls z==k)=[]:=by
       rw[List.filter_eq_nil_iff]
       intro q hq
       simp at hq;subst hq
       simp
       exact⟨hx,hk⟩
      rw[e];simp
    refine⟨P++([x]++Q),⟨hco,(hX.al.append (Alike0.refl [x])).trans hal⟩,by simp at hl⊢;omega,fun y hy=> ?_⟩
    simp only[List.mem_append,List.mem_singleton] at hy hm⊢
    rcases hy with h | h | h
    ·exact .inl (hm y (.inl h))
    ·exact .inr h
    ·exact .inl (hm y (.inr h))
 exact fun l=>key l.length l rfl
set_option maxHeartbeats 2000000 in
set_option maxRecDepth 20000 in
theorem equal_any (va vb:Value)(za zb:List Int)(n₁ n₂:Nat)(w:World)(ha:Ints n₁ w va za)(hb:Ints n₂ w vb zb)(hla:za.length≤4611686018427387904)(_hlb:zb.length≤4611686018427387904):
  Calls Tryz.prog 88 #[va,vb] w fun e w'=>e=.returned (.bool (decide (za=zb)))∧Below w.heap.size w w':=by
 obtain⟨R,HR⟩: ∃R,Hid (R=decide (za=zb)):=⟨_,rfl⟩
 rw[←HR.out]
 by_cases hl:za.length=zb.length
 ·rcases Nat.eq_zero_or_pos za.length with h0 | h0
  ·obtain⟨x,c,rfl⟩:=ha.val
   obtain⟨y,d,rfl⟩:=hb.val
   have hb0:zb.length=0:=by omega
   have hR:R=true:=by rw[HR.out,List.eq_nil_of_length_eq_zero h0,List.eq_nil_of_length_eq_zero hb0];rfl
   rw[h0,hb0]
   clear ha hb h0 hb0 hl hla
   go_enter Tryz.func88,Tryz.ntmps88
   go_wp2
   go_loopw [13] (fun i wr=>i=.int .i64 0∧wr=w) (fun _ _=>0)
   case atStart=>exact⟨rfl,rfl⟩
   case round=>
    obtain⟨rfl,rfl⟩:=hrel
    go_wp2
    go_ret
    exact⟨by rw[hR];rfl,Below.refl _ _⟩
  ·rcases ha with ⟨_,_,_,h⟩ | ⟨b1,o1,c1,rfl,hb1,hc1⟩
   ·rw[h] at h0;simp at h0
   rcases hb with ⟨_,_,_,h⟩ | ⟨b2,o2,c2,rfl,hb2,hc2⟩
   ·rw[hl,h] at h0;simp at h0
   rw[←hl]
   rw[←hl] at hc2
   obtain⟨L,hL⟩: ∃L,L=za.length:=⟨_,rfl⟩
   have HL:Hid (L=za.length∧L=zb.length):=⟨hL,by rw[hL];exact hl⟩
   rw[←hL] at hc1 hc2 hla h0⊢
   clear hl hL
   go_enter Tryz.func88,Tryz.ntmps88
   go_wp2
   go_loopw [13] (fun i wr=> ∃k:Nat,k≤L∧i=.int .i64 k∧Hid (R=decide (za.drop k=zb.drop k))∧Below w.heap.size w wr∧(∀a,wr.cell? a=w.cell? a)) (fun i _=>L-(intOf i).toNat)
   case atStart=>exact⟨0,Nat.zero_le _,rfl,HR,Below.refl _ _,fun _=>rfl⟩
   case round=>
    obtain⟨k,hk,rfl,HK,hbel,hsame⟩:=hrel
    by_cases hlt:k<L
    ·have x1:=(hsame _).trans (hc1 k hlt)
     have x2:=(hsame _).trans (hc2 k hlt)
     have hK:=HK.out
     rw[drop_getD za k (by rw[←HL.out.1];exact hlt),drop_getD zb k (by rw[←HL.out.2];exact hlt)] at hK
     obtain⟨p,hp⟩: ∃p,p=za[k]?.getD 0:=⟨_,rfl⟩
     obtain⟨q,hq⟩: ∃q,q=zb[k]?.getD 0:=⟨_,rfl⟩
     rw[←hp] at x1 hK
     rw[←hq] at x2 hK
     have HS:Hid (∀a,wr.cell? a=w.cell? a):=hsame
     clear hp hq HK hc1 hc2 hsame
     by_cases hpq:p=q
     ·have HK2:Hid (R=decide (za.drop (k+1)=zb.drop (k+1))):=by show _=_;rw[hK,hpq];simp
      have t1:(p==q)=true:=by simpa using hpq
      have t2:(p !=q)=false:=by simpa using hpq
      clear hK hpq
      go_wp2
      go_region
      go_wp2
      go_roundw
      case rel=>exact⟨k+1,by omega,by go_num,HK2,hbel.drew,HS.out⟩
      case measure=>simp[intOf];omega
     ·have hR:R=false:=by rw[hK];simp[hpq]
      have t1:(p==q)=false:=by simpa using hpq
      have t2:(p !=q)=true:=by simpa using hpq
      clear hK hpq
      go_wp2
      go_region
      go_wp2
      go_ret
      exact⟨by first | (rw[hR];rfl) | rfl,hbel.drew⟩
    ·obtain rfl:k=L:=by omega
     have hR:R=true:=by
      rw[HK.out,List.drop_eq_nil_of_le (by rw[←HL.out.1];exact Nat.le_refl _),List.drop_eq_nil_of_le (by rw[←HL.out.2];exact Nat.le_refl _)];rfl
     clear HK
     go_wp2
     go_ret
     exact⟨by first | (rw[hR];rfl) | rfl,hbel⟩
 ·obtain⟨x,c,rfl⟩:=ha.val
  obtain⟨y,d,rfl⟩:=hb.val
  have hR:R=false:=by rw[HR.out];simp;intro h;exact hl (by rw[h])
  clear ha hb
  go_enter Tryz.func88,Tryz.ntmps88
  go_wp2
  go_ret
  exact⟨by rw[hR];rfl,Below.refl _ _⟩
set_option maxHeartbeats 2000000 in
set_option maxRecDepth 20000 in
theorem same_any (bd:Nat)(L:List Mk)(E:Int→List Int)(a:Option Addr)(kp cap:Nat)(ps X:List Int)(b:Option Addr)(kq cbp:Nat)(qs Y:List Int)(w:World)(hps: ∀q∈ps,InI q)(hpt: ∀q∈aa3 E ps,InI q)(hqs: ∀q∈qs,InI q)(hqt: ∀q∈aa3 E qs,InI q)(hc0: ∀p,0≤aaa L p)(hd:DataAt w bd L E)
  (hin:Ints w.heap.size w (.slice a kp cap) ps) (hkp:kp=ps.length) (hkl:(aa3 E ps).length≤68719476736) (hkl2:kp≤68719476736) (hX:acq L E ps X) (hXl:X.length≤68719476736)
  (hjn:Ints w.heap.size w (.slice b kq cbp) qs) (hkq:kq=qs.length) (hql:(aa3 E qs).length≤68719476736) (hql2:kq≤68719476736) (hY:acq L E qs Y) (hYl:Y.length≤68719476736):
  Calls Tryz.prog 37 #[.pointer (some ⟨bd,0,none⟩),.slice a kp cap,.slice b kq cbp] w fun e w'=>e=.returned (.bool (decide (X=Y)))∧Below w.heap.size w w':=by
 have hf:=form_any bd L E a kp cap ps w hps hpt hc0 hd hin hkp hkl hkl2
 have hg: ∀w1,Below w.heap.size w w1→Calls Tryz.prog 89 #[.pointer (some ⟨bd,0,none⟩),.slice b kq cbp] w1 fun e w'=>FormPost L E w1 qs e w':=fun w1 hb=>form_any bd L E b kq cbp qs w1 hqs hqt hc0 (hd.below hb) ((hjn.below hb (Nat.le_refl _)).mono hb.size) hkq hql hql2
 obtain⟨R,HR⟩: ∃R,Hid (R=decide (X=Y)):=⟨_,rfl⟩
 rw[←HR.out]
 have HX:Aside (acq L E ps X):=hX
 have HY:Aside (acq L E qs Y):=hY
 have HG:Aside _:=hg
 clear hX hY hg hin hjn hkp hkq hps hpt hqs hqt hc0 hd
 go_enter Tryz.func37,Tryz.ntmps37
 go_wp2_with fail
 refine hf.mono ?_
 rintro e w1 ⟨g,k,c,Z,rfl,hown,hform,hmem,hbel⟩
 obtain rfl:Z=X:=hform.same HX.out
 have hg:=HG.out w1 hbel
 clear hf hform hmem HG HX
 go_wp2_with fail
 refine hg.mono ?_
 rintro e w2 ⟨g2,k2,c2,Z2,rfl,hown2,hform2,hmem2,hbel2⟩
 obtain rfl:Z2=Y:=hform2.same HY.out
 have hownZ:IOwn w2 w.heap.size (.slice (some ⟨g,0,none⟩) k c) Z:=aac hown hbel2
 have hq:=equal_any _ _ Z Z2 w2.heap.size w2.heap.size w2 hownZ.ints hown2.ints (by omega) (by omega)
 rw[←HR.out] at hq
 clear hown hownZ hown2 hform2 hmem2 hg HY
 go_wp2_with fail
 refine hq.mono ?_
 rintro e w3 ⟨rfl,hbel3⟩
 go_wp2
 go_ret
 exact⟨rfl,(hbel.trans (hbel2.mono hbel.size)).trans (hbel3.mono (Nat.le_trans hbel.size hbel2.size))⟩
theorem same_load {t:List UInt8}{L:List Mk}{E:Int→List Int}(h:aav t=.ok (L,E)){bd:Nat}{a b:Option Addr}{k c k2 c2:Nat}{ps X qs Y:List Int}{w:World}(hd:DataAt w bd L E)(hn:Numb w a k c ps)(hm:Numb w b k2 c2 qs)(hX:acq L E ps X)(hXl:X.length≤68719476736)(hY:acq L E qs Y)(hYl:Y.length≤68719476736):
  Calls Tryz.prog 37 #[.pointer (some ⟨bd,0,none⟩),.slice a k c,.slice b k2 c2] w fun e w'=>e=.returned (.bool (decide (X=Y)))∧Below w.heap.size w w':=by
 have:=flat_len hd ps
 have h1:=hn.few
 have h2:=hn.len
 have:=flat_len hd qs
 have h3:=hm.few
 have h4:=hm.len
 exact same_any bd L E a k c ps X b k2 c2 qs Y w hn.int (flat_in h hn.int) hm.int (flat_in h hm.int) (fun p=>(afu h p).1) hd hn.ints hn.len (by omega) (by omega) hX hXl hm.ints hm.len (by omega) (by omega) hY hYl
end Go.Proofs.YtpfkoldfbecdlaaGreatDoor
