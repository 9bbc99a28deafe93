/- Contracts and lemmas (nothing is claimed here). -/
import Derived.Test.YtfhpgmlfgjfknaaGreatDoorJ28
namespace Go.Proofs.YtfhpgmlfgjfknaaGreatDoor
open Go.RowKit Go.Vf Go.Maps
theorem RowsAt.snoc {W':World}{base:Nat}{vs:List Value}{rs:List (List Int)}{v u:Value}{r:List Int}(hvs: ∀i (h:i<rs.length),∃u,vs[i]? =some u∧IOwn W' base u rs[i])(hl:vs.length=rs.length)(hu:IOwn W' base u r)(hrow:W'.ownsRow base 46 1 v (vs.length+1) (vs++[u])):RowsAt W' base v (rs++[r]):=by
 refine⟨vs++[u],by rw[List.length_append,←hl];exact hrow,fun i hi=> ?_⟩
 rcases Nat.lt_or_ge i rs.length with h | h
 ·obtain⟨u',q1,q2⟩:=hvs i h
  rw[List.getElem_append_left h]
  exact⟨u',by rw[List.getElem?_append_left (by omega)];exact q1,q2⟩
 ·have hj':i=rs.length:=by simp at hi;omega
  subst hj'
  simp only[List.getElem_append_right (Nat.le_refl _),Nat.sub_self,List.getElem_cons_zero]
  exact⟨u,by rw[List.getElem?_append_right (by omega),hl];simp,hu⟩
theorem a6w {cls:Int→Int}: ∀(n:Nat) (l:List Int),(byC cls n l).length≤l.length:=by
 intro n
 induction n with
 | zero=>intro l;simp[byC]
 | succ n ih=>
  intro l
  cases l with
  | nil=>simp[byC]
  | cons x xs=>
   have h1:=ih (xs.dropWhile (fun y=>cls y==cls x))
   have h2:=agr (p:=fun y=>cls y==cls x) xs
   rw[byC]
   simp only[List.length_cons]
   omega
theorem awr {cls:Int→Int}{top:Int}{ps:List (List Int)}: ∀n:Nat,Rising cls top (List.replicate n []++ps)→Rising cls top ps:=by
 intro n
 induction n with
 | zero=>intro h;simpa using h
 | succ n ih=>
  intro h
  rw[List.replicate_succ,List.cons_append] at h
  rcases h with ⟨_,h⟩ | ⟨c,h0,_⟩
  ·exact ih h
  ·exact absurd rfl h0
theorem avc {W W':World}{base B g:Nat}{e:TypeId}{size k:Nat}{v:Value}{xs:List Value}(h:W.ownsRow base e size v k xs)(hm:Mv B g W W')(hB:B<base)(hg:g<base):W'.ownsRow base e size v k xs:=
 adj h (fun j hj=>hm.block j (alh h j hj) (by have:=(aan h hj).1;omega) (by have:=(aan h hj).1;omega))
def au1:Value→Nat
 | .slice _ n _=>n
 | _=>0
theorem a3f (B bd T:Nat)(W:World)(h:Blk W B 221 #[.pointer (some ⟨bd,0,none⟩),.pointer (some ⟨T,0,none⟩),.slice none 0 0]):Calls Tryz.prog 148 #[.pointer (some ⟨B,0,none⟩)] W fun e w'=>e=.returned (.bool false)∧W=w':=by
 have c2:W.cell? ⟨B,2,none⟩=some (.slice none 0 0):=h.cell 2
 go_enter Tryz.func148,Tryz.ntmps148
 go_wp2_with fail
 go_loopw [] (fun wr=>wr=W) (fun _=>0)
 case atStart=>rfl
 case round=>
  obtain rfl:=hrel
  go_wp2
  go_ret
  exact⟨rfl,rfl⟩
theorem awy {n₀ g n cap base:Nat}{W:World}{ps:List (List Int)}(h:PcO n₀ W base (.slice (some ⟨g,0,none⟩) n cap) ps):n=ps.length∧n≤cap∧base≤g∧(∃cs,Blk W g 46 cs)∧Pcs n₀ W g 0 ps:=by
 obtain⟨vs,hrow,hvs⟩:=h.row
 rcases hrow.2 with ⟨e,_⟩ | ⟨g',cap',cur,e,hb,hh,h1,h2,h3,h4⟩
 ·cases e
 ·cases e
  refine⟨rfl,h1,hb,⟨cur,hh⟩,fun j hj=> ?_⟩
  obtain⟨b,o,c,q1,q2,q3⟩:=hvs j hj
  refine⟨b,o,c,?_,q2,q3⟩
  have hB:Blk W g 46 cur:=hh
  rw[hB.cell,←Array.getElem?_toList,Nat.zero_add,←List.getElem?_take_of_lt (show j<ps.length*1 by omega),h4]
  exact q1
set_option maxHeartbeats 4000000 in
set_option maxRecDepth 20000 in
theorem ayu {t:List UInt8}{L:List Mk}{F:Int→List Int}(h:aaw t=.ok (L,F)){bd T me ml:Nat}{val:List Int→Value}{E:List Ent}{a:Option Addr}{k c:Nat}{zs X:List Int}{w:World}(hd:DataAt w bd L F)(ht:TabAt w T me ml val E)(hn:Numb w a k c zs)(hX:ahx L F zs X)(hfew:zs.length≤1000000000):
  Calls Tryz.prog 105 #[.pointer (some ⟨bd,0,none⟩),.pointer (some ⟨T,0,none⟩),.slice a k c] w fun e w'=> ∃v,e=.returned v∧RowsAt w' w.heap.size v (abo (aaa L) (ach E) X)∧Below w.heap.size w w':=by
 have hfo:=a0w h hd hn
 have hcls:=apg h
 generalize hR:abo (aaa L) (ach E) X=R
 have HR:Hid ([]++abo (aaa L) (ach E) X=R):=hR
 clear hR
 go_enter Tryz.func105,Tryz.ntmps105
 go_wp2_with fail
 refine hfo.mono ?_
 rintro e w1 hpost
 obtain⟨gf,kf,cf,X',rfl,hown,hform,hb1⟩:=hpost.formed
 obtain rfl:X'=X:=FormOf.same hform.form hX
 have hkf:=hown.form1
 subst hkf
 have hXI:=a0v h hn.int hform
 have hXl:X'.length≤57000000000:=by have:=avu hd hform zs.length (Nat.le_refl _);omega
 have hd1:=hd.below hb1
 have ht1:=ht.below hb1
 have hcu:=a3j hd1 hXI (hown.mono (Nat.zero_le _)) (by omega)
 clear hfo hpost hown
 go_wp2_with fail
 refine hcu.mono ?_
 rintro e w2 ⟨v2,rfl,hpo,hb2⟩
 have hflat:(anm (aaa L) X').flatten=X':=a4x _ _ (Nat.le_refl _)
 have hrise:Rising (aaa L) 0 (anm (aaa L) X'):=ax3 (fun q=>(hcls q).1) _ _ _ hX.co (fun y _=>by have:=(hcls y).1;omega)
 clear hcu
 obtain⟨a2,n2,c2,rfl⟩: ∃a n c,v2=.slice a n c:=by
  obtain⟨vs,hrow,_⟩:=hpo.row
  obtain⟨a,c,e⟩:=aax hrow
  exact⟨_,_,_,e⟩
 go_wp2_with fail
 have hbA:=(Below.refl w2.heap.size w2).alloc (Nat.le_refl _) (.cells #[.pointer (some ⟨bd,0,none⟩),.pointer (some ⟨T,0,none⟩),.slice a2 n2 c2] 221)
 have hnb:=Blk.new w2 221 #[.pointer (some ⟨bd,0,none⟩),.pointer (some ⟨T,0,none⟩),.slice a2 n2 c2]
 have hsz3:(w2.alloc (.cells #[.pointer (some ⟨bd,0,none⟩),.pointer (some ⟨T,0,none⟩),.slice a2 n2 c2] 221)).heap.size=w2.heap.size+1:=by simp
 generalize (w2.alloc (.cells #[.pointer (some ⟨bd,0,none⟩),.pointer (some ⟨T,0,none⟩),.slice a2 n2 c2] 221))=W3 at hbA hnb hsz3⊢
 have hb13:Below w1.heap.size w1 W3:=hb2.trans (hbA.mono hb2.size)
 have hb03:Below w.heap.size w W3:=hb1.trans (hb13.mono hb1.size)
 have hB1:w1.heap.size≤w2.heap.size:=hb2.size
 generalize hBe:w2.heap.size=B at hnb hsz3 hB1⊢
 cases a2 with
 | none=>
  have hX0:X'=[]:=by
   obtain⟨vs,hrow,_⟩:=hpo.row
   rcases hrow.2 with ⟨e,h0⟩ | ⟨g',cap',cur,e,_⟩
   ·have:anm (aaa L) X'=[]:=List.eq_nil_of_length_eq_zero h0
    rw[this] at hflat
    exact hflat.symm
   ·cases e
  obtain⟨rfl,rfl⟩:n2=0∧c2=0:=by
   obtain⟨vs,hrow,_⟩:=hpo.row
   rcases hrow.2 with ⟨e,h0⟩ | ⟨g',cap',cur,e,_⟩
   ·cases e;exact⟨rfl,rfl⟩
   ·cases e
  have hRR:R=[]:=by rw[←HR.out,hX0];rfl
  have hmo:=a3f B bd T W3 hnb
  clear HR
  go_loopw [8] (fun rv wr=>rv=.slice none 0 0∧wr=W3) (fun _ _=>0)
  case atStart=>exact⟨rfl,rfl⟩
  case round=>
   obtain⟨rfl,rfl⟩:=hrel
   go_wp2_with fail
   refine hmo.mono ?_
   rintro e w4 ⟨rfl,rfl⟩
   go_wp2_with fail
   go_ret
   rw[hRR]
   exact⟨_,rfl,RowsAt.nil _ _,hb03⟩
 | some ad=>
  obtain⟨g,hadd⟩: ∃g,ad=⟨g,0,none⟩:=by
   obtain⟨vs,hrow,_⟩:=hpo.row
   rcases hrow.2 with ⟨e,h0⟩ | ⟨g',cap',cur,e,_⟩
   ·cases e
   ·cases e;exact⟨_,rfl⟩
  subst hadd
  obtain⟨hn2,hnc,hbg,⟨csg,hcg⟩,hpcs⟩:=awy hpo
  have hgl:g<w2.heap.size:=hcg.lt
  have hpl2: ∀p∈anm (aaa L) X',(∀q∈p,InI q)∧p.length≤X'.length:=fun p hp=>⟨fun q hq=>hXI q (by rw[←hflat];exact List.mem_flatten.2 ⟨p,hp,hq⟩),by
   conv=>rhs;rw[←hflat]
   exact(List.sublist_flatten_of_mem hp).length_le⟩
  have hpn:(anm (aaa L) X').length≤X'.length:=a6w _ _
  have hk3:MWk w1 bd T B g 0 c2 (anm (aaa L) X') W3:=by
   refine⟨hb13,by rw[←hn2];exact hnb,by omega,hB1,hbg,⟨csg,hcg.below hbA hgl⟩,?_⟩
   exact hpcs.same (hbA.block g hgl) (fun k hk=>hbA.block k (Nat.lt_of_lt_of_le hk hb2.size))
  have hok3:RestOk (aaa L) (anm (aaa L) X'):=⟨fun p hp=>(hpl2 p hp).1,hrise,by omega,fun p hp=>by have:=(hpl2 p hp).2;omega⟩
  have hgB:g<B:=by omega
  have HR3:Hid ([]++abo (aaa L) (ach E) (anm (aaa L) X').flatten=R):=by show _=_;rw[hflat];exact HR.out
  have HL3:Hid (0+(anm (aaa L) X').flatten.length≤X'.length):=by show _≤_;rw[hflat];omega
  clear HR hpo hpcs hpl2 hpn hflat hrise hnb hbA hn2 hnc
  generalize anm (aaa L) X'=P at*
  go_loopw [8] (fun rv wr=> ∃(off cap:Nat) (ps dn:List (List Int)),MWk w1 bd T B g off cap ps wr∧RestOk (aaa L) ps∧Hid (dn++abo (aaa L) (ach E) ps.flatten=R)∧Aside (RowsAt wr W3.heap.size rv dn)∧Hid (dn.length+ps.flatten.length≤X'.length)∧W3.heap.size≤wr.heap.size) (fun rv _=>X'.length-au1 rv)
  case atStart=>exact⟨0,c2,P,[],hk3,hok3,HR3,RowsAt.nil _ _,HL3,Nat.le_refl _⟩
  case round=>
   clear hk3 hok3 HR3 HL3
   obtain⟨off,cap,ps,dn,hk,hok,HR,HRO,HL,hsz⟩:=hrel
   obtain⟨ra,rc,hrv⟩:=HRO.out.val
   subst hrv
   have hmo:=a3g hk (by have:=hok.len;omega)
   go_wp2_with fail
   refine hmo.mono ?_
   rintro e W4 ⟨b4,off4,cap4,ps4,rfl,hk4,hmv4,⟨n4,hn4⟩,hcase⟩
   have hfl:ps.flatten=ps4.flatten:=by rw[hn4];simp
   have hok4:RestOk (aaa L) ps4:=hok.sub (fun p' hp=>⟨p',by rw[hn4];exact List.mem_append_right _ hp,0,by simp⟩) (awr n4 (by rw[←hn4];exact hok.rise)) (by rw[hn4];simp)
   have hB3:B<W3.heap.size:=by omega
   have hg3:g<W3.heap.size:=by omega
   obtain⟨vs,hrow,hvs⟩:=HRO.out
   have hvl:vs.length=dn.length:=by have:=hrow.1;omega
   rw[hfl] at HR HL
   clear hmo hok hk hn4 hfl HRO
   rcases hcase with ⟨rfl,x,t',r',rfl⟩ | ⟨rfl,rfl⟩
   ·have hst:=a2n hk4 hd1 ht1 hok4 (fun q=>(hcls q).1)
    have hne:((x::t')::r').flatten≠ []:=by simp
    have hsd:=ads (cls:=aaa L) (fnd:=ach E) hne
    have hlen:=ak9 (cls:=aaa L) (fnd:=ach E) ((x::t')::r').flatten
    have hpos:=ak8 (cls:=aaa L) (fnd:=ach E) hne
    generalize aei (aaa L) (ach E) ((x::t')::r').flatten=S at hst hsd hlen hpos
    have HR2:Hid ((dn++[S.1])++abo (aaa L) (ach E) S.2=R):=by show _=_;rw[←HR.out,hsd];simp
    have HL2:Hid ((dn++[S.1]).length+S.2.length≤X'.length):=by have h0:=HL.out;show _≤_;rw[←hlen] at h0;rw[List.length_append,List.length_singleton];omega
    have hdl:dn.length<X'.length:=by have:=HL2.out;simp at this;omega
    clear HR HL hsd hlen hpos hne
    go_wp2_with fail
    refine hst.mono ?_
    rintro e W5 ⟨v5,qs,rfl,hown5,hq5,hk5,hok5,hmv5⟩
    have hmv:=hmv4.trans hmv5
    have hs4:W3.heap.size≤W4.heap.size:=Nat.le_trans hsz hmv4.size
    have hs5:W3.heap.size≤W5.heap.size:=Nat.le_trans hs4 hmv5.size
    obtain⟨a5,c5,rfl⟩:=hown5.val
    have hrow5:W5.ownsRow W3.heap.size 46 1 (.slice ra dn.length rc) vs.length vs:=by rw[hvl];exact avc hrow hmv hB3 hg3
    have hbA5:=(Below.refl W5.heap.size W5).alloc (Nat.le_refl _) (.cells #[.slice a5 S.1.length c5] 46)
    have hnb5:=Blk.new W5 46 #[.slice a5 S.1.length c5]
    have hszA:W3.heap.size≤(W5.alloc (.cells #[.slice a5 S.1.length c5] 46)).heap.size:=Nat.le_trans hs5 hbA5.size
    have HROW:Aside ((W5.alloc (.cells #[.slice a5 S.1.length c5] 46)).ownsRow W3.heap.size 46 1 (.slice ra dn.length rc) vs.length vs):=aad hrow5 hbA5
    have hvl2:vs.length≤1000000000000:=by omega
    rw[←hq5] at HR2 HL2
    generalize hs1:S.1.length=sn at*
    clear hrow hst
    go_wp2_with (first | (at_builtin;refine aew rfl _ _ rfl W3.heap.size _ vs rfl HROW.out a5 sn c5 ⟨W5.heap.size,0,none⟩ _ rfl (hnb5.cell 0) hvl2 hszA ?_;intro v6 w6 hown6 hgr6 hat6;obtain⟨a6,c6,rfl⟩:=aax hown6))
    have hb6:Below W3.heap.size W5 w6:=((Below.refl W3.heap.size W5).alloc hs5 _).grown hgr6 hszA (fun j hj=>(aan HROW.out hj).1)
    have hk6:=hk5.goN hb6 hB3 hg3 hb13.size
    have hs6:W3.heap.size≤w6.heap.size:=Nat.le_trans hs5 hb6.size
    have hkeep: ∀ {u:Value} {z:List Int},IOwn W5 W3.heap.size u z→IOwn w6 W3.heap.size u z:=fun hu=>acv (aad hu hbA5) hgr6 (afb HROW.out (aad hu hbA5) (by decide))
    have HRO6:Aside (RowsAt w6 W3.heap.size (.slice a6 (vs.length+1) c6) (dn++[S.1])):=RowsAt.snoc (fun i hi=>by
     obtain⟨u,q1,q2⟩:=hvs i hi
     exact⟨u,q1,hkeep (avc q2 hmv hB3 hg3)⟩) hvl (hkeep (hown5.mono hs4)) hown6
    clear hown6 hgr6 hat6 HROW hkeep
    rw[hvl] at HRO6
    go_roundw
    case rel=>exact⟨off4,cap4,qs,dn++[S.1],hk6,hok5,HR2,HRO6,HL2,hs6⟩
    case measure=>simp only[au1];omega
   ·have hRR:R=dn:=by rw[←HR.out];simp[af0]
    have hfin:RowsAt W4 w.heap.size (.slice ra dn.length rc) R:=by
     rw[hRR]
     exact⟨vs,aai (avc hrow hmv4 hB3 hg3) hb03.size,fun i hi=>by
      obtain⟨u,q1,q2⟩:=hvs i hi
      exact⟨u,q1,aai (avc q2 hmv4 hB3 hg3) hb03.size⟩⟩
    have hbf:Below w.heap.size w W4:=hb1.trans (hk4.below.mono hb1.size)
    clear HR HL
    go_wp2_with fail
    go_ret
    exact⟨_,rfl,hfin,hbf⟩
end Go.Proofs.YtfhpgmlfgjfknaaGreatDoor
namespace Go.Proofs.YtfhpgmlfgjfknaaGreatDoor
open Go.RowKit Go.Vf Go.Maps Go.Deep
def av2 (E:List Ent)(r:List Int):List El:=(aep E r).getD (at3 (r.head?.getD 0))
def aie (E:List Ent)(rs:List (List Int)):List El:=rs.flatMap (av2 E)
theorem akn (w:World)(ty:TypeId)(ba:Option Addr)(n c:Nat)(hle:n≤c)(pa:Option Addr)(pc:Nat):(Builtin.append_ #[71,71] ty #[.slice ba n c,.slice pa 0 pc]).run Tryz.prog w=.ok (.slice ba n c) w:=by
 obtain⟨i,hi,hz,hsz,hby⟩:=info_parts avq
 cases pa with
 | none=>exact run_append_nothing (P:=Tryz.prog) w 71 71 ty 131 i Tryz.underlying71 hi ba n c hle _ (Src.ofNil w Tryz.underlying71 pc)
 | some ad=>exact run_append_nothing (P:=Tryz.prog) w 71 71 ty 131 i Tryz.underlying71 hi ba n c hle _ (Src.ofSlice w Tryz.underlying71 ad 0 pc [] (by simp) (by simp) (by simp))
theorem EOwn.cap {w:World}{base:Nat}{v:Value}{l:List El}(h:EOwn w base v l): ∃a c,v=.slice a l.length c∧l.length≤c:=by
 rcases h.2 with ⟨rfl,h0⟩ | ⟨g,cap,cur,rfl,_,_,h1,_⟩
 ·exact⟨none,0,by rw[h0],by omega⟩
 ·exact⟨_,cap,rfl,h1⟩
theorem adr {w:World}{ops:Array Oper}{rest:List Oper}{o:Oper}{a:Act}{Q:Exit→Act→World→Prop}(hgd:o.guard=none)(s x:Operand)
  (ho:o.op=.call {callee:=.builtin .append,args:= #[s,x],argTypes:= #[71,71]})
  (base:Nat) (v:Value) (zs:List El) (hs:a.eval s=v) (hown:EOwn w base v zs) (ys:List El) (n₀:Nat) (vx:Value) (hx:a.eval x=vx) (hin:Els n₀ w vx ys) (hlen:zs.length+ys.length≤4000000000000) (hbase:base≤w.heap.size)
  (h: ∀a' c' w',EOwn w' base (.slice a' (zs.length+ys.length) c') (zs++ys)→Below base w w'→w.grownBy w' v.ownBlock→wpList Tryz.prog ops Q rest (a.put o.dst (.slice a' (zs.length+ys.length) c')) w'):
  wpList Tryz.prog ops Q (o::rest) a w:=by
 by_cases hy:ys=[]
 ·subst hy
  obtain⟨pa,pc,rfl⟩: ∃pa pc,vx=.slice pa 0 pc:=by
   obtain⟨a,c,e⟩:=hin.val
   exact⟨a,c,e⟩
  obtain⟨ba,c,hv,hle⟩:=hown.cap
  have hr:=akn w o.type ba zs.length c hle pa pc
  refine wpList_plain hgd fun K hK=> ?_
  unfold Oper.wp execOp
  simp only[ho,resolve,invoke,builtin,Sem.run_bind,Sem.run_pure,Result.andThen_ok,List.map_toArray,List.map_cons,List.map_nil,hs,hx,hv,hr]
  subst hv
  exact hK _ _ (h ba c w (by rw[List.append_nil];exact hown) (Below.refl _ _) ⟨rfl,rfl,rfl,Nat.le_refl _,fun _ _ _=>rfl⟩)
 ·obtain⟨b,off,c,rfl⟩: ∃b off c,vx=.slice (some ⟨b,off,none⟩) ys.length c:=by
   rcases hin with ⟨_,_,_,e⟩ | ⟨b,off,c,e,hb,hc⟩
   ·exact absurd e hy
   ·exact⟨b,off,c,e⟩
  obtain⟨i,hi,hz,hsz,hby⟩:=info_parts avq
  refine wpList_append_own_at (P:=Tryz.prog) _ hgd s x 71 ho base 131 i _ 4 32 Tryz.underlying71 hi hz hsz hby rfl (by decide) v zs.length (aji zs) hs hown ⟨b,off,none⟩ ys.length c (aji ys) hx (by rw[agp]) ?_ (avz ys) ?_ ?_ hbase ?_
  ·intro j u hu
   rw[show (⟨b,off,none⟩:Addr).add j=⟨b,off+j,none⟩ by simp[Addr.add]]
   exact avy hin j u hu
  ·unfold maxLen;omega
  ·omega
  ·intro v' w' h1 h2 _ _
   have h4:EOwn w' base v' (zs++ys):=by unfold EOwn;rw[al7,List.length_append];exact h1
   obtain⟨a',c',hv,_⟩:=h4.cap
   rw[List.length_append] at hv
   subst hv
   exact h a' c' w' h4 ((Below.refl _ w).grown h2 hbase (fun j hj=>(aan hown hj).1)) h2
theorem axe: ∀(l:List (List Int)),∀r∈l,r.length≤(l.map List.length).sum:=by
 intro l
 induction l with
 | nil=>intro r hr;cases hr
 | cons a t ih=>
  intro r hr
  rw[List.map_cons,List.sum_cons]
  rcases List.mem_cons.1 hr with rfl | hr
  ·omega
  ·have:=ih r hr;omega
theorem ap7 {cls:Int→Int}{fnd:List Int→Bool}(X:List Int): ∀r∈abo cls fnd X,r.length≤X.length:=fun r hr=>by
 have:=axe _ r hr
 rw[awh] at this
 exact this
theorem a3y (n:Int):(at3 n).length≤2:=by unfold at3;split<;>simp
theorem av1 {E:List Ent}(hok: ∀e∈E,EntOk e)(r:List Int):(av2 E r).length≤16:=by
 unfold av2
 cases hf:aep E r with
 | none=>have:=a3y (r.head?.getD 0);simp;omega
 | some l=>exact(hok _ (ahm hf)).n1
set_option maxHeartbeats 4000000 in
set_option maxRecDepth 20000 in
theorem arp {t:List UInt8}{L:List Mk}{F:Int→List Int}(h:aaw t=.ok (L,F)){bd T me ml:Nat}{val:List Int→Value}{E:List Ent}{a:Option Addr}{k c:Nat}{zs X:List Int}{w:World}(hd:DataAt w bd L F)(ht:TabAt w T me ml val E)(hn:Numb w a k c zs)(hX:ahx L F zs X)(hfew:zs.length≤1000000000)(hXl:X.length≤57000000000):
  Calls Tryz.prog 58 #[.pointer (some ⟨bd,0,none⟩),.pointer (some ⟨T,0,none⟩),.slice a k c] w fun e w'=> ∃v,e=.returned v∧EOwn w' w.heap.size v (aie E (abo (aaa L) (ach E) X))∧Below w.heap.size w w':=by
 have hst:=ayu h hd ht hn hX hfew
 have hrl:=aeh (cls:=aaa L) (fnd:=ach E) X
 have hrne:=ayv (cls:=aaa L) (fnd:=ach E) X
 have hrsh:=ap7 (cls:=aaa L) (fnd:=ach E) X
 generalize abo (aaa L) (ach E) X=rs at hst hrl hrne hrsh⊢
 generalize hR:aie E rs=R
 have HR:Hid ([]++aie E (rs.drop 0)=R):=by show _=_;simpa using hR
 clear hR
 go_enter Tryz.func58,Tryz.ntmps58
 go_wp2_with fail
 refine hst.mono ?_
 rintro e w1 ⟨v1,rfl,hro,hb1⟩
 obtain⟨vs,hrow,hvs⟩:=hro
 obtain⟨ra,rc,rfl⟩:=aax hrow
 have ht1:=ht.below hb1
 clear hst
 go_wp2_with fail
 go_loopw [7,17] (fun lv iv wr=> ∃(i:Nat) (acc:List El),i≤rs.length∧iv=.int .i64 i∧Aside (EOwn wr w1.heap.size lv acc)∧Hid (acc++aie E (rs.drop i)=R)∧Hid (acc.length≤16*i∧ ∃a n c,lv=.slice a n c)∧Below w1.heap.size w1 wr) (fun _ iv _=>rs.length-(intOf iv).toNat)
 case atStart=>exact⟨0,[],by omega,rfl,EOwn.nil _ _,HR,⟨by simp,_,_,_,rfl⟩,Below.refl _ _⟩
 case round=>
  clear HR
  obtain⟨i,acc,hi,rfl,HO,HR,HA,hbr⟩:=hrel
  obtain⟨la,ln,lc,rfl⟩:=HA.out.2
  by_cases hlt:i<rs.length
  ·obtain⟨u,hu,hiu⟩:=hvs i hlt
   obtain⟨gr,hgr,hcu⟩: ∃gr,ra=some ⟨gr,0,none⟩∧w1.cell? ⟨gr,i,none⟩=some u:=by
    rcases hrow.2 with ⟨e,h0⟩ | ⟨g,cap,cur,e,_,hh,_,_,_,htk⟩
    ·omega
    ·cases e
     refine⟨g,rfl,?_⟩
     have hB:Blk w1 g 46 cur:=hh
     rw[hB.cell,←Array.getElem?_toList,←List.getElem?_take_of_lt (show i<rs.length*1 by omega),htk]
     exact hu
   subst hgr
   have hgl:gr<w1.heap.size:=World.block_lt_of_cell? w1 _ hcu
   have hcr:=(hbr.cell (p:=⟨gr,i,none⟩) hgl).trans hcu
   have hne:=hrne _ (List.getElem_mem hlt)
   have hir:IOwn wr w.heap.size u rs[i]:=aad hiu hbr
   have hdr:rs.drop i=rs[i]::rs.drop (i+1):=List.drop_eq_getElem_cons hlt
   have HR2:Hid ((acc++av2 E rs[i])++aie E (rs.drop (i+1))=R):=by
    show _=_
    rw[←HR.out,hdr,List.append_assoc]
    try rfl
   have hel:=av1 ht.ok rs[i]
   have hrs8:=hrsh _ (List.getElem_mem hlt)
   generalize rs[i]=r at hne hir HR2 hel hrs8
   obtain⟨y,r',rfl⟩: ∃y r',r=y::r':=by
    cases r with
    | nil=>exact absurd rfl hne
    | cons y r'=>exact⟨y,r',rfl⟩
   obtain⟨ga,uc,rfl,hcy⟩: ∃ga uc,u=.slice (some ⟨ga,0,none⟩) (r'.length+1) uc∧wr.cell? ⟨ga,0,none⟩=some (.int .i64 y):=by
    rcases hir.form with ⟨_,e⟩ | ⟨g,cap,e,_,_,_,hc,_⟩
    ·cases e
    ·exact⟨g,cap,e,by simpa using hc 0 (by simp)⟩
   have htr:=ht1.below hbr
   have hfd:=avv T me ml _ val E _ (y::r') wr htr (Nat.le_refl _) hir.ints (by omega)
   have hyel:av2 E (y::r')=(aep E (y::r')).getD (at3 y):=rfl
   have hlen1:acc.length≤16*i:=HA.out.1
   rw[hyel] at HR2 hel
   generalize aep E (y::r')=fr at hfd HR2 hel
   clear hyel hir HR hrs8 hdr
   go_wp2_with fail
   refine hfd.mono ?_
   rintro e w3 ⟨hb3,hm3⟩
   have hs3:w1.heap.size≤w3.heap.size:=Nat.le_trans hbr.size hb3.size
   have HO3:Aside (EOwn w3 w1.heap.size (.slice la ln lc) acc):=aad HO.out hb3
   have hcy3:=(hb3.cell (p:=⟨ga,0,none⟩) (World.block_lt_of_cell? wr _ hcy)).trans hcy
   clear hfd HO hcr hcy
   cases fr with
   | none=>
    obtain rfl:e=_:=hm3
    simp only[Option.getD_none] at HR2 hel
    go_wp2_with fail
    refine(at2 y w3).mono ?_
    rintro e w4 ⟨v4,rfl,hown4,hb4,_⟩
    have hs4:w1.heap.size≤w4.heap.size:=Nat.le_trans hs3 hb4.size
    have HO4:Aside (EOwn w4 w1.heap.size (.slice la ln lc) acc):=aad HO3.out hb4
    have HE4:Aside (Els w4.heap.size w4 v4 (at3 y)):=EOwn.els hown4
    obtain⟨a4,c4,rfl,_⟩:=hown4.cap
    have hsum:acc.length+(at3 y).length≤4000000000000:=by omega
    have hln:ln=acc.length:=by obtain⟨_,_,e,_⟩:=HO4.out.cap;exact(Value.slice.inj e).2.1
    subst hln
    generalize hii:at3 y=ie at*
    clear hown4 HO3 hii
    go_wp2_with (first | (at_builtin;refine adr rfl _ _ rfl w1.heap.size _ acc rfl HO4.out ie _ _ rfl HE4.out hsum hs4 ?_;intro a5 c5 w5 hown5 hb5 _))
    have HO5:Aside (EOwn w5 w1.heap.size (.slice a5 (acc.length+ie.length) c5) (acc++ie)):=hown5
    have hb15:Below w1.heap.size w1 w5:=((hbr.trans (hb3.mono hbr.size)).trans (hb4.mono hs3)).trans hb5
    clear hown5
    go_roundw
    case rel=>exact⟨i+1,acc++ie,by omega,by simp,HO5,HR2,⟨by simp;omega,_,_,_,rfl⟩,hb15⟩
    case measure=>simp only[intOf];omega
   | some l=>
    obtain⟨a4,n4,c4,rfl,hown4⟩:=hm3
    simp only[Option.getD_some] at HR2 hel
    have HE4:Aside (Els w3.heap.size w3 (.slice a4 n4 c4) l):=EOwn.els hown4
    have hsum:acc.length+l.length≤4000000000000:=by omega
    have hln:ln=acc.length:=by obtain⟨_,_,e,_⟩:=HO3.out.cap;exact(Value.slice.inj e).2.1
    subst hln
    clear hown4
    go_wp2_with (first | (at_builtin;refine adr rfl _ _ rfl w1.heap.size _ acc rfl HO3.out l _ _ rfl HE4.out hsum hs3 ?_;intro a5 c5 w5 hown5 hb5 _))
    have HO5:Aside (EOwn w5 w1.heap.size (.slice a5 (acc.length+l.length) c5) (acc++l)):=hown5
    have hb15:Below w1.heap.size w1 w5:=(hbr.trans (hb3.mono hbr.size)).trans hb5
    clear hown5
    go_roundw
    case rel=>exact⟨i+1,acc++l,by omega,by simp,HO5,HR2,⟨by simp;omega,_,_,_,rfl⟩,hb15⟩
    case measure=>simp only[intOf];omega
  ·have hRR:R=acc:=by rw[←HR.out,List.drop_of_length_le (by omega)];simp[aie]
   clear HR
   go_wp2_with fail
   go_ret
   rw[hRR]
   exact⟨_,rfl,aai HO.out hb1.size,hb1.trans (hbr.mono hb1.size)⟩
end Go.Proofs.YtfhpgmlfgjfknaaGreatDoor
namespace Go.Vf
structure URow where
  first:Nat
  last:Nat
  low:Nat
  high:Nat
  size:Nat
  least:Nat
  most:Nat
def aaf:Nat→URow
  | 0=>⟨0x00,0x7f,0x00,0x00,1,0x0000,0x007f⟩
  | 1=>⟨0xc2,0xdf,0x80,0xbf,2,0x0080,0x07ff⟩
  | 2=>⟨0xe0,0xe0,0xa0,0xbf,3,0x0800,0x0fff⟩
  | 3=>⟨0xe1,0xec,0x80,0xbf,3,0x1000,0xcfff⟩
  | 4=>⟨0xed,0xed,0x80,0x9f,3,0xd000,0xd7ff⟩
  | 5=>⟨0xee,0xef,0x80,0xbf,3,0xe000,0xffff⟩
  | 6=>⟨0xf0,0xf0,0x90,0xbf,4,0x10000,0x3ffff⟩
  | 7=>⟨0xf1,0xf3,0x80,0xbf,4,0x40000,0xfffff⟩
  | _=>⟨0xf4,0xf4,0x80,0x8f,4,0x100000,0x10ffff⟩
def adt (c:Nat):Option Nat:=
  if c≤0x7f then some 0 else if c<0xc2 then none else if c≤0xdf then some 1 else if c=0xe0 then some 2 else if c≤0xec then some 3 else if c=0xed then some 4
  else if c≤0xef then some 5 else if c=0xf0 then some 6 else if c≤0xf3 then some 7 else if c=0xf4 then some 8 else none
def a56 (n:Int):Option Nat:=
  if n<0 then none else if n≤0x7f then some 0 else if n≤0x7ff then some 1 else if n≤0xfff then some 2 else if n≤0xcfff then some 3 else if n≤0xd7ff then some 4
  else if n<0xe000 then none else if n≤0xffff then some 5 else if n≤0x3ffff then some 6 else if n≤0xfffff then some 7 else if n≤0x10ffff then some 8 else none
theorem ayh (Q:Nat→Prop)(h: ∀k,k<9→Q k):Q 0∧Q 1∧Q 2∧Q 3∧Q 4∧Q 5∧Q 6∧Q 7∧Q 8:=
  ⟨h 0 (by decide),h 1 (by decide),h 2 (by decide),h 3 (by decide),h 4 (by decide),h 5 (by decide),h 6 (by decide),h 7 (by decide),h 8 (by decide)⟩
theorem acf {k:Nat}(h:k<9):k=0∨k=1∨k=2∨k=3∨k=4∨k=5∨k=6∨k=7∨k=8:=by omega
theorem ahh {c k:Nat}(hk:k<9)(h1:(aaf k).first≤c)(h2:c≤(aaf k).last):adt c=some k:=by
  rcases acf hk with rfl | rfl | rfl | rfl | rfl | rfl | rfl | rfl | rfl<;>simp only[aaf] at h1 h2<;>unfold adt<;>
    repeat (first | rw[if_pos (by omega)] | rw[if_neg (by omega)])
theorem ay3 {c:Nat}(h: ∀k,k<9→ ¬((aaf k).first≤c∧c≤(aaf k).last)):adt c=none:=by
  obtain⟨h0,h1,h2,h3,h4,h5,h6,h7,h8⟩:=ayh _ h
  simp only[aaf] at h0 h1 h2 h3 h4 h5 h6 h7 h8
  unfold adt
  rw[if_neg (by omega)]
  by_cases a:c<0xc2
  · rw[if_pos a]
  · rw[if_neg a]
    repeat rw[if_neg (by omega)]
theorem akq {n:Int}{k:Nat}(hk:k<9)(h1:((aaf k).least:Int)≤n)(h2:n≤((aaf k).most:Int)):a56 n=some k:=by
  rcases acf hk with rfl | rfl | rfl | rfl | rfl | rfl | rfl | rfl | rfl<;>simp only[aaf] at h1 h2<;>unfold a56<;>
    repeat (first | rw[if_pos (by omega)] | rw[if_neg (by omega)])
theorem ald {c k:Nat}(h:adt c=some k):k<9∧(aaf k).first≤c∧c≤(aaf k).last:=by
  unfold adt at h
  repeat' split at h
  all_goals (cases h<;>(simp only[aaf];omega))
def ajh (p:Nat):Prop:=p<0xd800∨0xe000≤p∧p<0x110000
def enc (p:Nat):List UInt8:=
  if p<0x80 then [UInt8.ofNat p] else if p<0x800 then [UInt8.ofNat (0xc0+p/64),UInt8.ofNat (0x80+p % 64)]
  else if p<0x10000 then [UInt8.ofNat (0xe0+p/4096),UInt8.ofNat (0x80+p/64 % 64),UInt8.ofNat (0x80+p % 64)]
  else [UInt8.ofNat (0xf0+p/262144),UInt8.ofNat (0x80+p/4096 % 64),UInt8.ofNat (0x80+p/64 % 64),UInt8.ofNat (0x80+p % 64)]
def adf:List Nat→List UInt8
  | []=>[]
  | p::ps=>enc p++adf ps
theorem abx (a b:List Nat):adf (a++b)=adf a++adf b:=by
  induction a with
  | nil=>rfl
  | cons p ps ih=>simp[adf,ih]
theorem ahc (p:Nat):0<(enc p).length:=by unfold enc;split;simp;split;simp;split<;>simp
theorem avw (p:Nat):(enc p).length≤4:=by unfold enc;split;simp;split;simp;split<;>simp
theorem abw (ps:List Nat):ps.length≤(adf ps).length:=by
  induction ps with
  | nil=>simp
  | cons p ps ih=>have:=ahc p;simp[adf];omega
def afz (b:UInt8):Bool:=decide (128≤b.toNat)&&decide (b.toNat≤191)
def alb (k:Nat)(l:List UInt8):Bool:=decide ((aaf k).low≤(l[1]?.getD 0).toNat)&&decide ((l[1]?.getD 0).toNat≤(aaf k).high)
def abh (k:Nat)(l:List UInt8):Bool:=decide ((aaf k).size≤l.length)&&((decide ((aaf k).size≤1)||alb k l)&&((l.take (aaf k).size).drop 2).all afz)
def ai2 (l:List UInt8):Prop:=l≠ []∧ ∀k,adt (l[0]?.getD 0).toNat=some k→abh k l=false
def acq (n:Nat):Nat:=if n=2 then 0xc0 else if n=3 then 0xe0 else if n=4 then 0xf0 else 0
def agx (l:List UInt8):Nat→Nat
  | 0=>0
  | 1=>(l[0]?.getD 0).toNat-acq l.length
  | i+2=>agx l (i+1)*64+((l[i+1]?.getD 0).toNat-128)
theorem aas {n:Nat}(h:n<256):(UInt8.ofNat n).toNat=n:=by simp[UInt8.toNat_ofNat'];omega
theorem aud {p:Nat}(hp:ajh p)(t:List UInt8): ∃k,k<9∧adt ((enc p)[0]?.getD 0).toNat=some k∧a56 p=some k∧(aaf k).size=(enc p).length∧abh k (enc p++t)=true∧agx (enc p) (enc p).length=p:=by
  have hb:(0≤p∧p≤0x7f)∨(0x80≤p∧p≤0x7ff)∨(0x800≤p∧p≤0xfff)∨(0x1000≤p∧p≤0xcfff)∨(0xd000≤p∧p≤0xd7ff)∨(0xe000≤p∧p≤0xffff)∨(0x10000≤p∧p≤0x3ffff)∨(0x40000≤p∧p≤0xfffff)∨(0x100000≤p∧p≤0x10ffff):=by
    unfold ajh at hp;omega
  rcases hb with h | h | h | h | h | h | h | h | h
  · have e:enc p=[UInt8.ofNat p]:=by unfold enc;rw[if_pos (by omega)]
    rw[e]
    refine⟨0,by decide,?_,akq (k:=0) (by decide) (by simp only[aaf];omega) (by simp only[aaf];omega),rfl,?_,?_⟩
    · simp only[List.getElem?_cons_zero,Option.getD_some];rw[aas (by omega)];exact ahh (k:=0) (by decide) (by simp only[aaf];omega) (by simp only[aaf];omega)
    · simp[abh,aaf]
    · show(UInt8.ofNat p).toNat-acq 1=p
      rw[aas (by omega)]
      exact Nat.sub_zero _
  · have e:enc p=[UInt8.ofNat (0xc0+p/64),UInt8.ofNat (0x80+p % 64)]:=by unfold enc;rw[if_neg (by omega),if_pos (by omega)]
    have e1:(UInt8.ofNat (0xc0+p/64)).toNat=0xc0+p/64:=aas (by omega)
    have e2:(UInt8.ofNat (0x80+p % 64)).toNat=0x80+p % 64:=aas (by omega)
    rw[e]
    refine⟨1,by decide,?_,akq (k:=1) (by decide) (by simp only[aaf];omega) (by simp only[aaf];omega),rfl,?_,?_⟩
    · simp only[List.getElem?_cons_zero,Option.getD_some];rw[e1];exact ahh (k:=1) (by decide) (by simp only[aaf];omega) (by simp only[aaf];omega)
    · simp only[abh,alb,aaf,List.cons_append,List.nil_append,List.length_cons,List.take_succ_cons,List.take_zero,List.drop_succ_cons,List.drop_nil,List.all_nil,List.getElem?_cons_succ,List.getElem?_cons_zero,Option.getD_some,e2];simp;omega
    · show((UInt8.ofNat (0xc0+p/64)).toNat-acq 2)*64+((UInt8.ofNat (0x80+p % 64)).toNat-128)=p
      rw[e1,e2,show acq 2=0xc0 from rfl];omega
  all_goals first
    | (have e:enc p=[UInt8.ofNat (0xe0+p/4096),UInt8.ofNat (0x80+p/64 % 64),UInt8.ofNat (0x80+p % 64)]:=by unfold enc;rw[if_neg (by omega),if_neg (by omega),if_pos (by omega)]
       have e1:(UInt8.ofNat (0xe0+p/4096)).toNat=0xe0+p/4096:=aas (by omega)
       have e2:(UInt8.ofNat (0x80+p/64 % 64)).toNat=0x80+p/64 % 64:=aas (by omega)
       have e3:(UInt8.ofNat (0x80+p % 64)).toNat=0x80+p % 64:=aas (by omega)
       rw[e]
       obtain⟨k,hk,hk1,hk2,hk3,hk4,hk5,hk6,hk7⟩: ∃k,k<9∧(aaf k).first≤0xe0+p/4096∧0xe0+p/4096≤(aaf k).last∧(aaf k).least≤p∧p≤(aaf k).most∧(aaf k).size=3∧(aaf k).low≤0x80+p/64 % 64∧0x80+p/64 % 64≤(aaf k).high:=by
         first
           | exact⟨2,by decide,by simp only[aaf];omega,by simp only[aaf];omega,by simp only[aaf];omega,by simp only[aaf];omega,rfl,by simp only[aaf];omega,by simp only[aaf];omega⟩
           | exact⟨3,by decide,by simp only[aaf];omega,by simp only[aaf];omega,by simp only[aaf];omega,by simp only[aaf];omega,rfl,by simp only[aaf];omega,by simp only[aaf];omega⟩
           | exact⟨4,by decide,by simp only[aaf];omega,by simp only[aaf];omega,by simp only[aaf];omega,by simp only[aaf];omega,rfl,by simp only[aaf];omega,by simp only[aaf];omega⟩
           | exact⟨5,by decide,by simp only[aaf];omega,by simp only[aaf];omega,by simp only[aaf];omega,by simp only[aaf];omega,rfl,by simp only[aaf];omega,by simp only[aaf];omega⟩
       refine⟨k,hk,?_,akq hk (by omega) (by omega),hk5,?_,?_⟩
       · simp only[List.getElem?_cons_zero,Option.getD_some];rw[e1];exact ahh hk hk1 hk2
       · simp only[abh,alb,hk5,List.cons_append,List.nil_append,List.length_cons,List.take_succ_cons,List.take_zero,List.drop_succ_cons,List.drop_zero,List.all_cons,List.all_nil,afz,List.getElem?_cons_succ,List.getElem?_cons_zero,Option.getD_some,e2,e3];simp;omega
       · show(((UInt8.ofNat (0xe0+p/4096)).toNat-acq 3)*64+((UInt8.ofNat (0x80+p/64 % 64)).toNat-128))*64+((UInt8.ofNat (0x80+p % 64)).toNat-128)=p
         rw[e1,e2,e3,show acq 3=0xe0 from rfl];omega)
    | (have e:enc p=[UInt8.ofNat (0xf0+p/262144),UInt8.ofNat (0x80+p/4096 % 64),UInt8.ofNat (0x80+p/64 % 64),UInt8.ofNat (0x80+p % 64)]:=by unfold enc;rw[if_neg (by omega),if_neg (by omega),if_neg (by omega)]
       have e1:(UInt8.ofNat (0xf0+p/262144)).toNat=0xf0+p/262144:=aas (by omega)
       have e2:(UInt8.ofNat (0x80+p/4096 % 64)).toNat=0x80+p/4096 % 64:=aas (by omega)
       have e3:(UInt8.ofNat (0x80+p/64 % 64)).toNat=0x80+p/64 % 64:=aas (by omega)
       have e4:(UInt8.ofNat (0x80+p % 64)).toNat=0x80+p % 64:=aas (by omega)
       rw[e]
       obtain⟨k,hk,hk1,hk2,hk3,hk4,hk5,hk6,hk7⟩: ∃k,k<9∧(aaf k).first≤0xf0+p/262144∧0xf0+p/262144≤(aaf k).last∧(aaf k).least≤p∧p≤(aaf k).most∧(aaf k).size=4∧(aaf k).low≤0x80+p/4096 % 64∧0x80+p/4096 % 64≤(aaf k).high:=by
         first
           | exact⟨6,by decide,by simp only[aaf];omega,by simp only[aaf];omega,by simp only[aaf];omega,by simp only[aaf];omega,rfl,by simp only[aaf];omega,by simp only[aaf];omega⟩
           | exact⟨7,by decide,by simp only[aaf];omega,by simp only[aaf];omega,by simp only[aaf];omega,by simp only[aaf];omega,rfl,by simp only[aaf];omega,by simp only[aaf];omega⟩
           | exact⟨8,by decide,by simp only[aaf];omega,by simp only[aaf];omega,by simp only[aaf];omega,by simp only[aaf];omega,rfl,by simp only[aaf];omega,by simp only[aaf];omega⟩
       refine⟨k,hk,?_,akq hk (by omega) (by omega),hk5,?_,?_⟩
       · simp only[List.getElem?_cons_zero,Option.getD_some];rw[e1];exact ahh hk hk1 hk2
       · simp only[abh,alb,hk5,List.cons_append,List.nil_append,List.length_cons,List.take_succ_cons,List.take_zero,List.drop_succ_cons,List.drop_zero,List.all_cons,List.all_nil,afz,List.getElem?_cons_succ,List.getElem?_cons_zero,Option.getD_some,e2,e3,e4];simp;omega
       · show((((UInt8.ofNat (0xf0+p/262144)).toNat-acq 4)*64+((UInt8.ofNat (0x80+p/4096 % 64)).toNat-128))*64+((UInt8.ofNat (0x80+p/64 % 64)).toNat-128))*64+((UInt8.ofNat (0x80+p % 64)).toNat-128)=p
         rw[e1,e2,e3,e4,show acq 4=0xf0 from rfl];omega)
end Go.Vf
namespace Go.Proofs.YtfhpgmlfgjfknaaGreatDoor
open Go.RowKit Go.Vf
structure Tabs (w:World):Prop where
 size:2≤w.heap.size
 r0: ∀k,k<9→w.cell? ⟨0,k*7,none⟩=some (.int .u8 ((aaf k).first:Int))
 r1: ∀k,k<9→w.cell? ⟨0,k*7+1,none⟩=some (.int .u8 ((aaf k).last:Int))
 r2: ∀k,k<9→w.cell? ⟨0,k*7+2,none⟩=some (.int .u8 ((aaf k).low:Int))
 r3: ∀k,k<9→w.cell? ⟨0,k*7+3,none⟩=some (.int .u8 ((aaf k).high:Int))
 r4: ∀k,k<9→w.cell? ⟨0,k*7+4,none⟩=some (.int .i64 ((aaf k).size:Int))
 r5: ∀k,k<9→w.cell? ⟨0,k*7+5,none⟩=some (.int .i64 ((aaf k).least:Int))
 r6: ∀k,k<9→w.cell? ⟨0,k*7+6,none⟩=some (.int .i64 ((aaf k).most:Int))
 heads: ∀k,k<5→w.cell? ⟨1,k,none⟩=some (.int .u8 (acq k:Int))
theorem Tabs.below {w w':World}{B:Nat}(h:Tabs w)(hB:2≤B)(hb:Below B w w'):Tabs w':=by
 refine⟨Nat.le_trans h.size hb.size,?_,?_,?_,?_,?_,?_,?_,?_⟩
 ·exact fun k hk=>(hb.cell (p:=⟨0,_,none⟩) (by show 0<B;omega)).trans (h.r0 k hk)
 ·exact fun k hk=>(hb.cell (p:=⟨0,_,none⟩) (by show 0<B;omega)).trans (h.r1 k hk)
 ·exact fun k hk=>(hb.cell (p:=⟨0,_,none⟩) (by show 0<B;omega)).trans (h.r2 k hk)
 ·exact fun k hk=>(hb.cell (p:=⟨0,_,none⟩) (by show 0<B;omega)).trans (h.r3 k hk)
 ·exact fun k hk=>(hb.cell (p:=⟨0,_,none⟩) (by show 0<B;omega)).trans (h.r4 k hk)
 ·exact fun k hk=>(hb.cell (p:=⟨0,_,none⟩) (by show 0<B;omega)).trans (h.r5 k hk)
 ·exact fun k hk=>(hb.cell (p:=⟨0,_,none⟩) (by show 0<B;omega)).trans (h.r6 k hk)
 ·exact fun k hk=>(hb.cell (p:=⟨1,_,none⟩) (by show 1<B;omega)).trans (h.heads k hk)
theorem Tabs.own {w w':World}(h:Tabs w)(hb:Below w.heap.size w w'):Tabs w':=h.below h.size hb
def a7b (k:Nat):Value:=.agg #[.int .u8 ((aaf k).first:Int),.int .u8 ((aaf k).last:Int),.int .u8 ((aaf k).low:Int),.int .u8 ((aaf k).high:Int),.int .i64 ((aaf k).size:Int),.int .i64 ((aaf k).least:Int),.int .i64 ((aaf k).most:Int)]
def azo:Value:=.agg #[.int .u8 0,.int .u8 0,.int .u8 0,.int .u8 0,.int .i64 0,.int .i64 0,.int .i64 0]
structure Box7 (w:World)(h:Nat)(a b c d e f g:Value):Prop where
 c0:w.cell? ⟨h,0,none⟩=some a
 c1:w.cell? ⟨h,1,none⟩=some b
 c2:w.cell? ⟨h,2,none⟩=some c
 c3:w.cell? ⟨h,3,none⟩=some d
 c4:w.cell? ⟨h,4,none⟩=some e
 c5:w.cell? ⟨h,5,none⟩=some f
 c6:w.cell? ⟨h,6,none⟩=some g
 f0:w.frozen? ⟨h,0,none⟩=false
 f1:w.frozen? ⟨h,1,none⟩=false
 f2:w.frozen? ⟨h,2,none⟩=false
 f3:w.frozen? ⟨h,3,none⟩=false
 f4:w.frozen? ⟨h,4,none⟩=false
 f5:w.frozen? ⟨h,5,none⟩=false
 f6:w.frozen? ⟨h,6,none⟩=false
 lt:h<w.heap.size
theorem Box7.new (w:World)(t:TypeId)(a b c d e f g:Value):Box7 (w.alloc (.cells #[a,b,c,d,e,f,g] t)) w.heap.size a b c d e f g:=by
 constructor<;>simp
def a8i (w:World)(h:Nat)(a b c d e f g:Value):World:=
 ((((((w.setCell ⟨h,0,none⟩ a).setCell ⟨h,1,none⟩ b).setCell ⟨h,2,none⟩ c).setCell ⟨h,3,none⟩ d).setCell ⟨h,4,none⟩ e).setCell ⟨h,5,none⟩ f).setCell ⟨h,6,none⟩ g
theorem Box7.put {w:World}{h:Nat}{a b c d e f g:Value}(x:Box7 w h a b c d e f g)(a' b' c' d' e' f' g':Value):Box7 (a8i w h a' b' c' d' e' f' g') h a' b' c' d' e' f' g':=by
 obtain⟨c0,c1,c2,c3,c4,c5,c6,f0,f1,f2,f3,f4,f5,f6,hlt⟩:=x
 unfold a8i
 constructor<;>first | (simp only[World.frozen?_setCell,f0,f1,f2,f3,f4,f5,f6]) | (simp[World.cell?_setCell_other,World.cell?_setCell_same,c0,c1,c2,c3,c4,c5,c6,hlt])
theorem aoi {B:Nat}{a w:World}{h:Nat}(hb:Below B a w)(hB:B≤h)(a' b' c' d' e' f' g':Value):Below B a (a8i w h a' b' c' d' e' f' g'):=by
 unfold a8i
 exact((((((hb.setCell (p:=⟨h,0,none⟩) hB _).setCell (p:=⟨h,1,none⟩) hB _).setCell (p:=⟨h,2,none⟩) hB _).setCell (p:=⟨h,3,none⟩) hB _).setCell (p:=⟨h,4,none⟩) hB _).setCell (p:=⟨h,5,none⟩) hB _).setCell (p:=⟨h,6,none⟩) hB _
theorem aix {tmps:Array Value}{w:World}{h:Nat}{a b c d e f g:Value}{x:Bool}(hx:Box7 w h a b c d e f g)(t2:tmps[2]?.getD undef=.pointer (some ⟨h,0,none⟩))(t3:tmps[3]?.getD undef=.bool x):
  (results Tryz.f70 tmps).run Tryz.prog w=.ok (.tuple #[.agg #[a,b,c,d,e,f,g],.bool x]) w:=by
 obtain⟨c0,c1,c2,c3,c4,c5,c6,f0,f1,f2,f3,f4,f5,f6,hlt⟩:=hx
 simp[results,Tryz.results70,go_sem,t2,t3,c0,c1,c2,c3,c4,c5,c6]
set_option maxHeartbeats 1000000 in
set_option maxRecDepth 20000 in
theorem aiu (c:UInt8)(w:World)(ht:Tabs w):
  Calls Tryz.prog 70 #[.int .u8 (c.toNat:Int)] w fun e w'=>(∃R:Value,e=.returned (.tuple #[R,.bool (adt c.toNat).isSome])∧(∀k,adt c.toNat=some k→R=a7b k)∧(adt c.toNat=none→R=azo))∧Below w.heap.size w w':=by
 have hx:=Box7.new w 103 (.int .u8 0) (.int .u8 0) (.int .u8 0) (.int .u8 0) (.int .i64 0) (.int .i64 0) (.int .i64 0)
 have hb0:=(Below.refl w.heap.size w).alloc (Nat.le_refl _) (.cells #[.int .u8 0,.int .u8 0,.int .u8 0,.int .u8 0,.int .i64 0,.int .i64 0,.int .i64 0] 103)
 go_enter Tryz.func70,Tryz.ntmps70
 go_wp2
 go_loopw [5] (fun i wr=> ∃k:Nat,k≤9∧i=.int .i64 k∧(∀j,j<k→ ¬((aaf j).first≤c.toNat∧c.toNat≤(aaf j).last))∧wr=w.alloc (.cells #[.int .u8 0,.int .u8 0,.int .u8 0,.int .u8 0,.int .i64 0,.int .i64 0,.int .i64 0] 103)) (fun i _=>9-(intOf i).toNat)
 case atStart=>exact⟨0,by omega,rfl,fun j hj=>absurd hj (by omega),rfl⟩
 case round=>
  obtain⟨k,hk,rfl,hno,rfl⟩:=hrel
  generalize w.alloc (.cells #[.int .u8 0,.int .u8 0,.int .u8 0,.int .u8 0,.int .i64 0,.int .i64 0,.int .i64 0] 103)=W at hx hb0⊢
  have hx2:=hx
  obtain⟨c0,c1,c2,c3,c4,c5,c6,f0,f1,f2,f3,f4,f5,f6,hl⟩:=hx2
  by_cases hlt:k<9
  ·have ht2:=ht.own hb0
   have t0:=ht2.r0 k hlt
   have t1:=ht2.r1 k hlt
   have t2:=ht2.r2 k hlt
   have t3:=ht2.r3 k hlt
   have t4:=ht2.r4 k hlt
   have t5:=ht2.r5 k hlt
   have t6:=ht2.r6 k hlt
   clear ht ht2
   go_wp2
   ·have hf:(aaf k).first≤c.toNat:=by assumption
    have hg:c.toNat≤(aaf k).last:=by assumption
    have hr:adt c.toNat=some k:=ahh hlt hf hg
    refine bodyPost_ret (aix (hx.put _ _ _ _ _ _ _) rfl rfl) rfl ⟨⟨a7b k,by rw[hr];rfl,fun k' h'=>by rw[hr] at h';cases h';rfl,fun h'=>by rw[hr] at h';cases h'⟩,?_⟩
    exact aoi hb0 (Nat.le_refl _) _ _ _ _ _ _ _
   ·have hg: ¬(c.toNat≤(aaf k).last):=by omega
    go_roundw
    case rel=>exact⟨k+1,by omega,by go_num,fun j hj=>(Nat.lt_succ_iff_lt_or_eq.1 hj).elim (hno j) (fun h=>by subst h;exact fun h=>hg h.2),trivial⟩
    case measure=>simp[intOf];omega
   ·have hg: ¬((aaf k).first≤c.toNat):=by omega
    go_roundw
    case rel=>exact⟨k+1,by omega,by go_num,fun j hj=>(Nat.lt_succ_iff_lt_or_eq.1 hj).elim (hno j) (fun h=>by subst h;exact fun h=>hg h.1),trivial⟩
    case measure=>simp[intOf];omega
  ·go_wp2
   have hr:adt c.toNat=none:=ay3 (fun j hj=>hno j (by omega))
   refine bodyPost_ret (aix (hx.put _ _ _ _ _ _ _) rfl rfl) rfl ⟨⟨azo,by rw[hr];rfl,fun k' h'=>(by rw[hr] at h';cases h'),fun _=>rfl⟩,?_⟩
   exact aoi hb0 (Nat.le_refl _) _ _ _ _ _ _ _
end Go.Proofs.YtfhpgmlfgjfknaaGreatDoor
