/- Contracts and lemmas (nothing is claimed here). -/
import Derived.Test.YtpfkoldfbecdlaaGreatDoorJ14
import Derived.Test.YtpfkoldfbecdlaaGreatDoorJ33
import Derived.Test.YtpfkoldfbecdlaaGreatDoorJ36
import Derived.Test.YtpfkoldfbecdlaaGreatDoorJ35
import Derived.Test.YtpfkoldfbecdlaaGreatDoorJ30
import Derived.BigRegion
import Derived.Test.YtpfkoldfbecdlaaGreatDoorJ17
namespace Go.Proofs.YtpfkoldfbecdlaaGreatDoor
open Go.RowKit Go.Vf Go.Maps
theorem rightB_va {e:El}(h:aai e=true):VaOk e:=by
 unfold aai at h
 simp only[Bool.and_eq_true,Bool.or_eq_true,decide_eq_true_eq,Bool.not_eq_true'] at h
 intro hv
 rcases h.2 with h | h
 ·exact h
 ·rw[hv] at h;cases h
theorem impR_va (n:Int): ∀e∈impR n,VaOk e:=by
 intro e he
 unfold impR at he
 split at he
 ·simp at he
  rcases he with rfl | rfl<;>(intro h;cases h)
 ·simp at he
theorem elsOf_va {E:List Ent}(hok: ∀e∈E,EntOk e)(rs:List (List Int)): ∀e∈ad2 E rs,VaOk e:=by
 intro e he
 obtain⟨r,_,hr⟩:=List.mem_flatMap.1 he
 unfold af7 at hr
 cases hf:acm E r with
 | none=>rw[hf] at hr;exact impR_va _ e hr
 | some l=>
  rw[hf] at hr
  have:=(hok _ (afd hf)).ok
  exact rightB_va (List.all_eq_true.1 this e hr)
def acg (sh back:Bool)(es:List El)(n:Nat):List (List Int):=(List.range n).map fun k=>lev sh back k es
theorem rowsLv_succ (sh back:Bool)(es:List El)(n:Nat):acg sh back es (n+1)=acg sh back es n++[lev sh back n es]:=by
 unfold acg
 rw[List.range_succ,List.map_append]
 rfl
theorem aeb (sh back:Bool)(es:List El)(n:Nat):(acg sh back es n).length=n:=by simp[acg]
def LvPost (s:Int)(sh back:Bool)(es:List El)(er:Int)(w:World)(e:Ending)(w':World):Prop:=
 Below w.heap.size w w'∧((er=0∧ ∃v,e=.returned (.tuple #[v,.int .i64 0])∧RowsAt w' w.heap.size v (acg sh back es s.toNat))∨(er≠0∧e=.returned (.tuple #[.slice none 0 0,.int .i64 er])))
structure Doc8 (w:World)(v:Value)(L:List Mk)(F:Int→List Int)(l:List Ent):Prop where
 load: ∃t,aav t=.ok (L,F)
 h57: ∀q,(aao F q).length≤57∧0<(aao F q).length
 ok: ∀e∈l,EntOk e
 val: ∃da dn dc tv,v=.agg #[.bool true,.slice da dn dc,tv]∧MIn w.heap.size w (.slice da dn dc) (aap L)∧RT w.heap.size w tv l
theorem Doc8.go {w w':World}{v:Value}{L:List Mk}{F:Int→List Int}{l:List Ent}(h:Doc8 w v L F l)(hb:Below w.heap.size w w'):Doc8 w' v L F l:=by
 obtain⟨da,dn,dc,tv,e,h1,h2⟩:=h.val
 exact⟨h.load,h.h57,h.ok,da,dn,dc,tv,e,h1.go hb,RT.mono (h2.below hb (Nat.le_refl _)) hb.size⟩
theorem act {tmps:Array Value}{w:World}{a b:Value}(t2:tmps[6]?.getD undef=a)(t3:tmps[7]?.getD undef=b):(results Tryz.f32 tmps).run Tryz.prog w=.ok (.tuple #[a,b]) w:=by
 simp[results,Tryz.results32,go_sem,t2,t3]
set_option maxHeartbeats 2000000 in
set_option maxRecDepth 20000 in
theorem afj (dv tv:Value)(hd: ∃a n c,dv=.slice a n c)(ht: ∃a n c,tv=.slice a n c)(s:Int)(sh back:Bool)(txt:ByteArray)(w:World):Calls Tryz.prog 32 #[.agg #[.bool false,dv,tv],ag8 s sh back,.string txt] w fun e w'=>e=.returned (.tuple #[.slice none 0 0,.int .i64 3])∧Below w.heap.size w w':=by
 obtain⟨a1,n1,c1,rfl⟩:=hd
 obtain⟨a2,n2,c2,rfl⟩:=ht
 have hbA:=(Below.refl w.heap.size w).alloc (Nat.le_refl _) (.cells #[.bool false,.slice a1 n1 c1,.slice a2 n2 c2] 33)
 have hb0:=hbA.alloc (by simp) (.cells #[.int .i64 s,.bool sh,.bool back] 44)
 have hD1:=Blk.new w 33 #[.bool false,.slice a1 n1 c1,.slice a2 n2 c2]
 have hD2:Blk ((w.alloc (.cells #[.bool false,.slice a1 n1 c1,.slice a2 n2 c2] 33)).alloc (.cells #[.int .i64 s,.bool sh,.bool back] 44)) w.heap.size 33 #[.bool false,.slice a1 n1 c1,.slice a2 n2 c2]:=(Below.heap_alloc _ _ _ (by simp)).trans hD1
 go_enter Tryz.func32,Tryz.ntmps32
 go_upto_region 1 with fail
 generalize (w.alloc (.cells #[.bool false,.slice a1 n1 c1,.slice a2 n2 c2] 33)).alloc (.cells #[.int .i64 s,.bool sh,.bool back] 44)=W at hb0 hD2⊢
 have c0:W.cell? ⟨w.heap.size,0,none⟩=some (.bool false):=hD2.cell 0
 go_wp2_with fail
 refine bodyPost_ret (act rfl rfl) rfl ?_
 exact⟨rfl,hb0⟩
set_option maxHeartbeats 16000000 in
set_option maxRecDepth 20000 in
theorem rlevels_any {v:Value}{L:List Mk}{F:Int→List Int}{l:List Ent}{w:World}(h:Doc8 w v L F l)(s:Int)(hs:InI s)(sh back:Bool)(txt:ByteArray)(hsz:txt.size≤4294967296)(ps:List Nat)(rest:List UInt8)(hsp:txt.data.toList=ac5 ps++rest)(hps: ∀p∈ps,ag9 p)(hrest:rest=[]∨ag7 rest){X:List Int}(hX:acq L F (ps.map fun p:Nat=>(p:Int)) X)(hXp:X.length≤57*ps.length):
  Calls Tryz.prog 32 #[v,ag8 s sh back,.string txt] w fun e w'=>LvPost s sh back (ad2 l (aax (aaa L) (aaw l) X)) (ad5 s sh txt.size rest) w e w':=by
 obtain⟨da,dn,dc,tv,rfl,hD0,hT0⟩:=h.val
 obtain⟨ta,tc,rfl⟩:=hT0.inn.val
 obtain⟨t,hld⟩:=h.load
 generalize hln:l.length=tn at hT0⊢
 have hbA:=(Below.refl w.heap.size w).alloc (Nat.le_refl _) (.cells #[.bool true,.slice da dn dc,.slice ta tn tc] 33)
 have hb0:=hbA.alloc (by simp) (.cells #[.int .i64 s,.bool sh,.bool back] 44)
 have hB1:=Blk.new w 33 #[.bool true,.slice da dn dc,.slice ta tn tc]
 have hC1:=Blk.new (w.alloc (.cells #[.bool true,.slice da dn dc,.slice ta tn tc] 33)) 44 #[.int .i64 s,.bool sh,.bool back]
 rw[show (w.alloc (.cells #[.bool true,.slice da dn dc,.slice ta tn tc] 33)).heap.size=w.heap.size+1 by simp] at hC1
 have hB2:Blk ((w.alloc (.cells #[.bool true,.slice da dn dc,.slice ta tn tc] 33)).alloc (.cells #[.int .i64 s,.bool sh,.bool back] 44)) w.heap.size 33 #[.bool true,.slice da dn dc,.slice ta tn tc]:=(Below.heap_alloc _ _ _ (by simp)).trans hB1
 have HOK:Hid (∀e∈l,EntOk e):=h.ok
 have H57:Hid (∀q,(aao F q).length≤57∧0<(aao F q).length):=h.h57
 clear h hbA hB1
 obtain⟨er,her⟩: ∃er,er=ad5 s sh txt.size rest:=⟨_,rfl⟩
 rw[←her]
 have HER:Hid (er=ad5 s sh txt.size rest):=her
 obtain⟨es,hes⟩: ∃es,es=ad2 l (aax (aaa L) (aaw l) X):=⟨_,rfl⟩
 rw[←hes]
 have HES:Hid (es=ad2 l (aax (aaa L) (aaw l) X)):=hes
 clear hes
 have HSP:Hid (txt.data.toList=ac5 ps++rest):=hsp
 have HX:Hid (acq L F (ps.map fun p:Nat=>(p:Int)) X):=hX
 have HLD:Hid (aav t=.ok (L,F)):=hld
 clear her hsp hX hld
 go_enter Tryz.func32,Tryz.ntmps32
 go_upto_region 1 with fail
 generalize (w.alloc (.cells #[.bool true,.slice da dn dc,.slice ta tn tc] 33)).alloc (.cells #[.int .i64 s,.bool sh,.bool back] 44)=W at hb0 hB2 hC1⊢
 have hwW:=hb0.size
 have b0:W.cell? ⟨w.heap.size,0,none⟩=some (.bool true):=hB2.cell 0
 have k0:W.cell? ⟨w.heap.size+1,0,none⟩=some (.int .i64 s):=hC1.cell 0
 have k1:W.cell? ⟨w.heap.size+1,1,none⟩=some (.bool sh):=hC1.cell 1
 have k2:W.cell? ⟨w.heap.size+1,2,none⟩=some (.bool back):=hC1.cell 2
 have hD:=hD0.go hb0
 have hT:=RT.mono (hT0.below hb0 (Nat.le_refl _)) hb0.size
 clear hD0 hT0
 go_wp2_with fail
 refine(rRight_any s sh back W hs).mono ?_
 rintro _ w1 ⟨rfl,hb1⟩
 have hb01:=hb0.trans (hb1.mono hwW)
 cases hr:acp s sh with
 | false=>
  have e1:er=1:=by rw[HER.out];unfold ad5;rw[if_neg (by rw[hr];decide)]
  subst e1
  go_wp2_with fail
  refine bodyPost_ret (act rfl rfl) rfl ?_
  exact⟨hb01,.inr ⟨by decide,rfl⟩⟩
 | true=>
  have HER1:Hid (er=if 65536<txt.size then 2 else if rest=[] then 0 else 30):=by show _=_;rw[HER.out];unfold ad5;rw[if_pos hr]
  have HRT:Hid (1≤s∧s≤4∧(s=4→sh=true)):=by
   show _∧_
   unfold acp at hr
   simp only[Bool.and_eq_true,decide_eq_true_eq] at hr
   cases sh
   ·simp at hr;exact⟨hr.1,by omega,fun e=>by omega⟩
   ·simp at hr;exact⟨hr.1,hr.2,fun _=>rfl⟩
  clear HER hr
  by_cases hlong:65536<txt.size
  ·have hlz:decide ((65536:Int)<(txt.size:Int))=true:=by simp;omega
   have e2:er=2:=by rw[HER1.out,if_pos hlong]
   subst e2
   clear HER1 hlong
   go_wp2_with fail
   refine bodyPost_ret (act rfl rfl) rfl ?_
   exact⟨hb01,.inr ⟨by decide,rfl⟩⟩
  ·have hlz:decide ((65536:Int)<(txt.size:Int))=false:=by simp;omega
   have HER2:Hid (er=if rest=[] then 0 else 30):=by show _=_;rw[HER1.out,if_neg hlong]
   have hpl:ps.length≤65536:=by
    have q1:=abk ps
    have q2:(ac5 ps++rest).length=txt.size:=by rw[←HSP.out,←Lib.size_eq]
    rw[List.length_append] at q2
    omega
   clear HER1 hlong
   go_wp2_with fail
   refine(adf txt hsz ps rest HSP.out hps hrest w1).mono ?_
   rintro e w2 ⟨⟨hr0,pv,rfl,hown⟩ | ⟨hr0,rfl⟩,hb2⟩
   case inr=>
    have e30:er=30:=by rw[HER2.out,if_neg hr0]
    subst e30
    go_wp2_with fail
    refine bodyPost_ret (act rfl rfl) rfl ?_
    exact⟨hb01.trans (hb2.mono hb01.size),.inr ⟨by decide,rfl⟩⟩
   have e0:er=0:=by rw[HER2.out,if_pos hr0]
   subst e0
   have hb12:=hb1.trans (hb2.mono hb1.size)
   have hb02:=hb01.trans (hb2.mono hb01.size)
   have y1:w2.cell? ⟨w.heap.size,1,none⟩=some (.slice da dn dc):=(hb12.cell (p:=⟨w.heap.size,1,none⟩) hB2.lt).trans (hB2.cell 1)
   have y2:w2.cell? ⟨w.heap.size,2,none⟩=some (.slice ta tn tc):=(hb12.cell (p:=⟨w.heap.size,2,none⟩) hB2.lt).trans (hB2.cell 2)
   obtain⟨pa,pc,rfl⟩:=hown.val
   have hnb:Numb w2 pa (ps.map fun p:Nat=>(p:Int)).length pc (ps.map fun p:Nat=>(p:Int)):=IOwn.numb hown (pts_in hps) (by rw[List.length_map];omega)
   have hel:=relements_any HLD.out HOK.out (hD.go hb12) (RT.mono (hT.below hb12 (Nat.le_refl _)) hb12.size) hnb H57.out (by rw[List.length_map];omega) HX.out (by omega)
   have hrl:=abz (cls:=aaa L) (fnd:=aaw l) X
   have hEl:=elsOf_len HOK.out (aax (aaa L) (aaw l) X)
   have hVa:=elsOf_va HOK.out (aax (aaa L) (aaw l) X)
   rw[←HES.out] at hel hEl hVa
   have hel2:es.length≤1000000000000:=by omega
   generalize (ps.map fun p:Nat=>(p:Int)).length=pn at hel hnb hown⊢
   have hC2: ∀x,Below w2.heap.size w2 x→Blk x (w.heap.size+1) 44 #[.int .i64 s,.bool sh,.bool back]:=fun x hx=>(hC1.below hb12 hC1.lt).below hx (Nat.lt_of_lt_of_le hC1.lt hb12.size)
   have HC2:Hid _:=hC2
   clear HES hC2 hEl hrl hnb hown HER2 HOK HX HLD H57 HSP hD hT hb1 hb2 hb12 hpl hXp hrest hps k0 k1 k2 hB2 hC1 hb0 hb01 b0
   go_wp2_with fail
   refine hel.mono ?_
   rintro e w3 ⟨ev,rfl,hE3,hb3⟩
   clear hel y1 y2
   obtain⟨ea,ec,rfl,_⟩:=hE3.cap
   have HE3:Aside (Els w3.heap.size w3 (.slice ea es.length ec) es):=EOwn.els hE3
   have hb03:=hb02.trans (hb3.mono hb02.size)
   have HVA:Hid (∀e∈es,VaOk e):=hVa
   generalize hel':es.length=en at*
   have HEN:Hid (es.length=en):=hel'
   clear hE3 hVa hel'
   obtain⟨n,hn⟩: ∃n:Nat,s=(n:Int):=⟨s.toNat,by have:=HRT.out.1;omega⟩
   subst hn
   have hn4:n≤4:=by have:=HRT.out.2.1;omega
   go_wp2_with fail
   go_loopw [12,13] (fun rv iv wr=> ∃(i:Nat),i≤n∧iv=.int .i64 ((i:Int)+1)∧Aside (RowsAt wr w3.heap.size rv (acg sh back es i))∧Hid (∃a c,rv=.slice a i c)∧Below w3.heap.size w3 wr) (fun _ iv _=>n+1-(intOf iv).toNat)
   case atStart=>exact⟨0,by omega,by first | rfl | go_num,RowsAt.nil _ _,⟨_,_,rfl⟩,Below.refl _ _⟩
   case round=>
    obtain⟨i,hi,rfl,HR,HV,hbr⟩:=hrel
    obtain⟨ra,rc,rfl⟩:=HV.out
    have hbw:=hb3.trans (hbr.mono hb3.size)
    have hBk:=HC2.out _ hbw
    have q0:wr.cell? ⟨w.heap.size+1,0,none⟩=some (.int .i64 (n:Int)):=hBk.cell 0
    have q1:wr.cell? ⟨w.heap.size+1,1,none⟩=some (.bool sh):=hBk.cell 1
    have q2:wr.cell? ⟨w.heap.size+1,2,none⟩=some (.bool back):=hBk.cell 2
    by_cases hlt:i<n
    ·have hle:(i:Int)+1≤(n:Int):=by omega
     have hlv:=rlevel_any i (by omega) (z:=(i:Int)+1) rfl sh back (n:Int) (fun e=>HRT.out.2.2 (by omega)) HVA.out (Els.below HE3.out hbr (Nat.le_refl _)) hbr.size (by rw[HEN.out];omega)
     have hss:=rowsLv_succ sh back es i
     have hlen:=aeb sh back es i
     generalize lev sh back i es=r at hlv hss
     generalize acg sh back es i=dn0 at HR hss hlen
     clear hBk
     go_wp2_with fail
     refine hlv.mono ?_
     rintro e W5 ⟨u,rfl,hu5,hb5⟩
     have hsr:=hbr.size
     have hs5:=hb5.size
     have hs35:w3.heap.size≤W5.heap.size:=Nat.le_trans hsr hs5
     obtain⟨vs,hrow,hvs⟩:=HR.out.go hb5
     have hvl:vs.length=i:=by have:=hrow.1;rw[hlen] at this;omega
     rw[hlen] at hrow
     replace hrow:W5.ownsRow w3.heap.size 90 1 (.slice ra i rc) vs.length vs:=by rw[hvl];exact hrow
     obtain⟨a5,c5,rfl⟩:=hu5.val
     have hbA5:=(Below.refl W5.heap.size W5).alloc (Nat.le_refl _) (.cells #[.slice a5 r.length c5] 90)
     have hnb5:=Blk.new W5 90 #[.slice a5 r.length c5]
     have hszA:w3.heap.size≤(W5.alloc (.cells #[.slice a5 r.length c5] 90)).heap.size:=Nat.le_trans hs35 hbA5.size
     have hri:=aba hrow
     have HROW:Aside ((W5.alloc (.cells #[.slice a5 r.length c5] 90)).ownsRow w3.heap.size 90 1 (.slice ra i rc) vs.length vs):=aac hrow hbA5
     have hvl2:vs.length≤1000000000000:=by omega
     have HU5:Aside (IOwn W5 w3.heap.size (.slice a5 r.length c5) r):=hu5.mono hsr
     have HVS:Hid (∀j (h:j<dn0.length),∃u,vs[j]? =some u∧IOwn W5 w3.heap.size u dn0[j]):=hvs
     generalize hrn:r.length=rn at*
     clear hrow hlv hu5 hvs hri q0 q1 q2
     go_wp2_with (first | (at_builtin;refine acx rfl _ _ rfl w3.heap.size _ vs rfl HROW.out a5 rn c5 ⟨W5.heap.size,0,none⟩ _ rfl (hnb5.cell 0) hvl2 hszA ?_;intro v6 w6 hown6 hgr6 hat6;obtain⟨a6,c6,rfl⟩:=aba hown6))
     have hb6:Below w3.heap.size W5 w6:=((Below.refl w3.heap.size W5).alloc hs35 _).grown hgr6 hszA (fun j hj=>(aah HROW.out hj).1)
     have hkeep: ∀ {u:Value} {z:List Int},IOwn W5 w3.heap.size u z→IOwn w6 w3.heap.size u z:=fun hu=>aa0 (aac hu hbA5) hgr6 (acu HROW.out (aac hu hbA5) (by decide))
     have HRO6:Aside (RowsAt w6 w3.heap.size (.slice a6 (i+1) c6) (acg sh back es (i+1))):=by
      show RowsAt _ _ _ _
      rw[hss,←hvl]
      exact RowsAt.snoc (fun j hj=>by
       obtain⟨u,q1,q2⟩:=HVS.out j hj
       exact⟨u,q1,hkeep q2⟩) (hvl.trans hlen.symm) (hkeep HU5.out) hown6
     have hbr6:=(hbr.trans (hb5.mono hsr)).trans hb6
     rw[hvl] at*
     clear hown6 hgr6 hat6 HROW hkeep HVS HU5 hnb5
     go_roundw
     case rel=>exact⟨i+1,by omega,by first | rfl | go_num,HRO6,⟨_,_,rfl⟩,hbr6⟩
     case measure=>simp only[intOf];omega
    ·obtain rfl:i=n:=by omega
     have hle: ¬((i:Int)+1≤(i:Int)):=by omega
     have hfin:=HR.out
     go_wp2_with fail
     refine bodyPost_ret (act rfl rfl) rfl ?_
     refine⟨hb03.trans (hbr.mono hb03.size),.inl ⟨rfl,_,rfl,?_⟩⟩
     obtain⟨vs,hrow,hvs⟩:=hfin
     rw[show ((i:Nat):Int).toNat=i from rfl]
     exact⟨vs,aae hrow hb03.size,fun j hj=>by
      obtain⟨u,q1,q2⟩:=hvs j hj
      exact⟨u,q1,aae q2 hb03.size⟩⟩
theorem step_append_two {ops:Array Oper}{o:Oper}{a:Act}{w:World}{K:Act→World→Prop}{Q:Exit→Act→World→Prop}{E:Prop}(hgd:o.guard=none)(s x:Operand)
  (ho:o.op=.call {callee:=.builtin .append,args:= #[s,x],argTypes:= #[78,78]}) (base:Nat) (v:Value) (acc:List UInt8) (hs:a.eval s=v) (hown:BOwn 5 w base v acc) (y z:UInt8) (ad:Addr) (c:Nat) (hx:a.eval x=.slice (some ad) 2 c)
  (hc0:w.cell? (ad.add 0)=some (.int .u8 (y.toNat:Int))) (hc1:w.cell? (ad.add 1)=some (.int .u8 (z.toNat:Int))) (hlen:acc.length≤1000000000000) (hbase:base≤w.heap.size) (B:Nat) (w0:World) (hb:Below B w0 w) (hB:B≤base)
  (hK: ∀a' c' w',BOwn 5 w' base (.slice a' (acc.length+2) c') (acc++[y,z])→Below B w0 w'→base≤w'.heap.size→K (a.put o.dst (.slice a' (acc.length+2) c')) w'):
  if Region.wanted o (yielded ops a.tmps)=true then Oper.wp Tryz.prog o a w K Q else E:=by
 have hw:Region.wanted o (yielded ops a.tmps)=true:=by simp[Region.wanted,hgd]
 rw[if_pos hw]
 obtain⟨i,hi,hz,hsz,hby⟩:=info_parts info5
 obtain⟨v',w',hrun,r1,r2,r3⟩:=run_append_own (P:=Tryz.prog) w base 78 o.type 5 i (.int .u8 0) 1 1 Tryz.underlying78 hi hz hsz hby rfl (by decide) v acc.length (af8 acc) hown ad 2 c [.int .u8 (y.toNat:Int),.int .u8 (z.toNat:Int)] rfl
  (fun j u hj=>by
   match j,hj with
   | 0,hj=>simp at hj;subst hj;exact hc0
   | 1,hj=>simp at hj;subst hj;exact hc1)
  (fun u hu=>by simp at hu;rcases hu with rfl | rfl<;>rfl) (by unfold maxLen;omega) (by omega) hbase
 unfold Oper.wp
 simp[execOp,ho,resolve,invoke,builtin,hs,hx,hrun,Result.andThen]
 have h3:BOwn 5 w' base v' (acc++[y,z]):=by
  unfold BOwn
  have e1:af8 (acc++[y,z])=af8 acc++[.int .u8 (y.toNat:Int),.int .u8 (z.toNat:Int)]:=by simp[af8]
  rw[e1,List.length_append]
  exact r1
 have h4:Below B w0 w':=hb.grown r2 (by omega) (fun k hk=>by
  rcases hown.form with ⟨rfl,_⟩ | ⟨g,cap,rfl,hg,_⟩
  ·simp[Value.ownBlock] at hk
  ·obtain rfl:g=k:=by simpa[Value.ownBlock] using hk
   omega)
 have h5:base≤w'.heap.size:=by have:=r2.size;omega
 rcases h3.form with ⟨_,e⟩ | ⟨g',c',rfl,_⟩
 ·simp at e
 ·have el:(acc++[y,z]).length=acc.length+2:=by simp
  rw[el] at h3⊢
  exact hK _ c' w' h3 h4 h5
theorem two_wrap {n:Int}(h0:0≤n)(h1:n≤65535):IntKind.u8.wrap (IntKind.i64.wrap (n.tdiv 256))=((UInt8.ofNat (n/256).toNat).toNat:Int)∧IntKind.u8.wrap (n.tmod 256)=((UInt8.ofNat (n % 256).toNat).toNat:Int):=by
 have e1:=two_hi h0 h1
 have e2:=two_lo h0
 exact⟨by rw[IntWalk.i64_quo _ _ ⟨h0,by omega,by omega⟩];rw[IntWalk.u8_in _ ⟨by omega,by omega⟩];exact e1,by rw[Int.tmod_eq_emod_of_nonneg h0];rw[IntWalk.u8_in _ ⟨by omega,by omega⟩];exact e2⟩
theorem rowsLv_levs (sh back:Bool)(es:List El)(n:Nat):levs sh back es (List.range n)=(acg sh back es n).flatMap rowK:=by
 unfold levs acg
 rw[List.flatMap_map]
theorem rowsLv_ok {sh back:Bool}{es:List El}{n:Nat}(h: ∀e∈es,WtOk e): ∀r∈acg sh back es n,(∀x∈r,1≤x∧x≤65535)∧r.length≤es.length:=by
 intro r hr
 obtain⟨k,_,rfl⟩:=List.mem_map.1 hr
 exact⟨lev_ok h,lev_len _ _ _ _⟩
theorem RowsAt.read {W:World}{base:Nat}{a:Option Addr}{n c:Nat}{rs:List (List Int)}(h:RowsAt W base (.slice a n c) rs){i:Nat}(hi:i<rs.length): ∃g ua uc,a=some ⟨g,0,none⟩∧W.cell? ⟨g,i,none⟩=some (.slice ua rs[i].length uc)∧IOwn W base (.slice ua rs[i].length uc) rs[i]:=by
 obtain⟨vs,hrow,hvs⟩:=h
 obtain⟨u,hu,hiu⟩:=hvs i hi
 obtain⟨ua,uc,rfl⟩:=hiu.val
 rcases hrow.2 with ⟨e,h0⟩ | ⟨g,cap,cur,e,_,hh,_,_,_,htk⟩
 ·omega
 ·cases e
  refine⟨g,ua,uc,rfl,?_,hiu⟩
  have hB:Blk W g 90 cur:=hh
  rw[hB.cell,←Array.getElem?_toList,←List.getElem?_take_of_lt (show i<rs.length*1 by omega),htk]
  exact hu
theorem key_results {tmps:Array Value}{w:World}{a b:Value}(t2:tmps[6]?.getD undef=a)(t3:tmps[7]?.getD undef=b):(results Tryz.f12 tmps).run Tryz.prog w=.ok (.tuple #[a,b]) w:=by
 simp[results,Tryz.results12,go_sem,t2,t3]
set_option maxHeartbeats 16000000 in
set_option maxRecDepth 20000 in
theorem rkey_any {es:List El}{er:Int}{th:Bool}{da ta:Option Addr}{dn dc tn tc:Nat}{s:Int}{sh back:Bool}{txt:ByteArray}{w:World}(hok: ∀e∈es,WtOk e)(hes:es.length≤60000000)(hs:er=0→1≤s∧s≤4)
  (hel: ∀W,Below w.heap.size w W→Calls Tryz.prog 32 #[.agg #[.bool th,.slice da dn dc,.slice ta tn tc],ag8 s sh back,.string txt] W fun e w'=>LvPost s sh back es er W e w'):
  Calls Tryz.prog 12 #[.agg #[.bool th,.slice da dn dc,.slice ta tn tc],ag8 s sh back,.string txt] w fun e w'=>KeyPost s sh back es er w e w':=by
 have hbA:=(Below.refl w.heap.size w).alloc (Nat.le_refl _) (.cells #[.bool th,.slice da dn dc,.slice ta tn tc] 33)
 have hb0:=hbA.alloc (by simp) (.cells #[.int .i64 s,.bool sh,.bool back] 44)
 have hB1:=Blk.new w 33 #[.bool th,.slice da dn dc,.slice ta tn tc]
 have hC1:=Blk.new (w.alloc (.cells #[.bool th,.slice da dn dc,.slice ta tn tc] 33)) 44 #[.int .i64 s,.bool sh,.bool back]
 rw[show (w.alloc (.cells #[.bool th,.slice da dn dc,.slice ta tn tc] 33)).heap.size=w.heap.size+1 by simp] at hC1
 have hB2:Blk ((w.alloc (.cells #[.bool th,.slice da dn dc,.slice ta tn tc] 33)).alloc (.cells #[.int .i64 s,.bool sh,.bool back] 44)) w.heap.size 33 #[.bool th,.slice da dn dc,.slice ta tn tc]:=(Below.heap_alloc _ _ _ (by simp)).trans hB1
 have hel0:=hel _ hb0
 clear hel hbA hB1
 go_enter Tryz.func12,Tryz.ntmps12
 go_upto_region 1 with fail
 generalize (w.alloc (.cells #[.bool th,.slice da dn dc,.slice ta tn tc] 33)).alloc (.cells #[.int .i64 s,.bool sh,.bool back] 44)=w0 at*
 have b0:w0.cell? ⟨w.heap.size,0,none⟩=some (.bool th):=hB2.cell 0
 have b1:w0.cell? ⟨w.heap.size,1,none⟩=some (.slice da dn dc):=hB2.cell 1
 have b2:w0.cell? ⟨w.heap.size,2,none⟩=some (.slice ta tn tc):=hB2.cell 2
 have k0:w0.cell? ⟨w.heap.size+1,0,none⟩=some (.int .i64 s):=hC1.cell 0
 have k1:w0.cell? ⟨w.heap.size+1,1,none⟩=some (.bool sh):=hC1.cell 1
 have k2:w0.cell? ⟨w.heap.size+1,2,none⟩=some (.bool back):=hC1.cell 2
 go_wp2_with fail
 refine hel0.mono ?_
 rintro r w1 ⟨hb1,⟨rfl,v1,rfl,hown1⟩ | ⟨her,rfl⟩⟩
 ·clear hel0 b0 b1 b2 k0 k1 k2 hB2 hC1
  obtain⟨n,rfl⟩: ∃n:Nat,s=(n:Int):=⟨s.toNat,by have:=hs rfl;omega⟩
  have hn:n≤4:=by have:=hs rfl;omega
  have hb01:=hb0.trans (hb1.mono hb0.size)
  rw[Int.toNat_natCast] at hown1
  have HKQ:Hid (keyLv (n:Int).toNat sh back es=(acg sh back es n).flatMap rowK):=by show _=_;rw[Int.toNat_natCast];unfold keyLv;exact rowsLv_levs sh back es n
  have hrok:=rowsLv_ok (sh:=sh) (back:=back) (n:=n) hok
  have hrl:=aeb sh back es n
  generalize acg sh back es n=rs at hown1 HKQ hrok hrl
  obtain⟨ra,rc,rfl⟩:=hown1.val
  have HRS:Aside (RowsAt w1 w0.heap.size (.slice ra rs.length rc) rs):=hown1
  have HOK:Hid (∀r∈rs,(∀x∈r,1≤x∧x≤65535)∧r.length≤es.length):=hrok
  have HR:Hid ([]++(rs.drop 0).flatMap rowK=rs.flatMap rowK):=by show _=_;simp
  generalize rs.flatMap rowK=R at HKQ HR
  generalize hrn:rs.length=rn at*
  have HRN:Hid (rs.length=rn):=hrn
  obtain rfl:n=rn:=hrl.symm
  have hw1:=hb01.size
  have HB01:Aside (Below w.heap.size w w1):=hb01
  clear hs hown1 hrok hrn hb0 hb1 hb01 hok
  go_wp2_with fail
  go_loopw [10,11] (fun kv iv wr=> ∃(i:Nat) (ac:List UInt8) (a1:Option Addr) (c1:Nat),i≤n∧iv=.int .i64 i∧kv=.slice a1 ac.length c1∧Aside (BOwn 5 wr w1.heap.size (.slice a1 ac.length c1) ac)∧Hid (ac++(rs.drop i).flatMap rowK=R)∧Hid (ac.length≤i*120000002)∧Below w1.heap.size w1 wr) (fun _ iv _=>n-(intOf iv).toNat)
  case atStart=>exact⟨0,[],none,0,by omega,rfl,rfl,BOwn.nil _ _ _,HR,by show _≤_;simp,Below.refl _ _⟩
  case round=>
   clear HR
   obtain⟨i,ac,a1,c1,hi1,rfl,rfl,HB,HR,HL,hbr⟩:=hrel
   by_cases hlt:i<n
   ·have hir:i<rs.length:=by rw[HRN.out];exact hlt
    obtain⟨g,ua,uc,rfl,hg,hrow⟩:=RowsAt.read HRS.out hir
    have hgl:g<w1.heap.size:=World.block_lt_of_cell? w1 _ hg
    have hdr:rs.drop i=rs[i]::rs.drop (i+1):=List.drop_eq_getElem_cons hir
    have hro:=HOK.out _ (List.getElem_mem hir)
    have hHR:=HR.out
    rw[hdr,List.flatMap_cons,←List.append_assoc] at hHR
    generalize rs[i]=row at hg hrow hHR hro
    have HR2:Hid ((ac++rowK row)++(rs.drop (i+1)).flatMap rowK=R):=hHR
    have HROW:Aside (Ints w1.heap.size w1 (.slice ua row.length uc) row):=hrow.ints
    have HRO:Hid (∀x∈row,1≤x∧x≤65535):=hro.1
    have hrl2:=hro.2
    obtain⟨wo,hwo⟩: ∃wo,wo=wr:=⟨_,rfl⟩
    subst hwo
    have HBR:Aside (Below w1.heap.size w1 wo):=hbr
    have HL0:Hid (ac.length≤i*120000002):=HL.out
    generalize hrwn:row.length=m at*
    have HM:Hid (row.length=m):=hrwn
    have hm:m≤60000000:=by omega
    clear hHR HR hdr hro hrow hbr hrwn HL
    go_wp2_with fail
    go_loopw [10,12] (fun kv jv wr=> ∃(j:Nat) (a2:Option Addr) (c2:Nat),j≤m∧jv=.int .i64 j∧kv=.slice a2 (ac++(row.take j).flatMap two).length c2∧Aside (BOwn 5 wr w1.heap.size (.slice a2 (ac++(row.take j).flatMap two).length c2) (ac++(row.take j).flatMap two))∧Hid ((ac++(row.take j).flatMap two).length=ac.length+2*j)∧Aside (Below w1.heap.size w1 wr)) (fun _ jv _=>m-(intOf jv).toNat)
    case atStart=>exact⟨0,a1,c1,by omega,rfl,by simp,by have h:=HB.out;show BOwn 5 _ _ _ _;simpa using h,by show _=_;simp,HBR.out⟩
    case round=>
     clear HB HBR
     obtain⟨j,a2,c2,hj,rfl,rfl,HB,HLJ,HBX⟩:=hrel
     have hgx:=(HBX.out.cell (p:=⟨g,i,none⟩) hgl).trans hg
     have hsx:=HBX.out.size
     by_cases hjl:j<m
     ·have hjr:j<row.length:=by rw[HM.out];exact hjl
      obtain⟨bu,ou,rfl,hcu⟩:=ints_at HROW.out hjr
      have hbu:bu<w1.heap.size:=World.block_lt_of_cell? w1 _ hcu
      have hcx:=(HBX.out.cell (p:=⟨bu,ou+j,none⟩) hbu).trans hcu
      have hxj:=HRO.out _ (List.getElem_mem hjr)
      have htk:(row.take (j+1))=row.take j++[row[j]]:=(List.take_append_getElem hjr).symm
      have HT2:Hid (ac++(row.take (j+1)).flatMap two=(ac++(row.take j).flatMap two)++two row[j]):=by show _=_;rw[htk,List.flatMap_append,List.append_assoc];simp
      generalize row[j]=x at hcx hxj HT2
      obtain⟨w1e,w2e⟩:=two_wrap (n:=x) (by omega) (by omega)
      have hlen0:(ac++(row.take j).flatMap two).length≤1000000000000:=by have h1:=HLJ.out;have h2:=HL0.out;omega
      have hal2:Hid ((ac++(row.take j).flatMap two).length+2=ac.length+2*(j+1)):=by show _=_;rw[HLJ.out];omega
      have htwo:two x=[UInt8.ofNat (x/256).toNat,UInt8.ofNat (x % 256).toNat]:=rfl
      rw[htwo] at HT2
      generalize ac++(row.take j).flatMap two=ax at HB HT2 hlen0 hal2
      generalize UInt8.ofNat (x/256).toNat=y at w1e HT2
      generalize UInt8.ofNat (x % 256).toNat=z at w2e HT2
      have h256:(0:Int)<256:=by decide
      clear HLJ hcu htk htwo
      go_wp2_with fail
      go_region_law (refine step_append_two rfl (.tmp 38) (.tmp 57) rfl w1.heap.size _ ax (by simp[Act.eval]) (BOwn.alloc (show BOwn 5 wr.drew w1.heap.size _ ax from HB.out) _) y z ⟨wr.heap.size,0,none⟩ 2 (by simp[Act.eval]) (by simp[Addr.add]) (by simp[Addr.add]) hlen0 (by simp;omega) w1.heap.size w1 (HBX.out.drew.alloc (by simpa using hsx) _) (Nat.le_refl _) ?_;intro a3 c3 W3 hown3 hbel3 hsz3)
      all_goals
       simp only[Act.put,List.setIfInBounds_toArray]
       go_wp2
       go_roundw
       case rel=>
        have e2:=HT2.out
        have el:(ax++[y,z]).length=ax.length+2:=by simp
        refine⟨j+1,a3,c3,by omega,by first | rfl | go_num,?_,?_,?_,hbel3⟩
        ·rw[e2,el]
        ·show BOwn 5 _ _ _ _
         rw[e2,el];exact hown3
        ·show _=_
         rw[e2,el];exact hal2.out
       case measure=>simp only[intOf];omega
     ·obtain rfl:j=m:=by omega
      have htk:row.take j=row:=List.take_of_length_le (by rw[HM.out];exact Nat.le_refl _)
      rw[htk] at HB HLJ
      have hlen0:(ac++row.flatMap two).length≤1000000000000:=by have h1:=HLJ.out;have h2:=HL0.out;omega
      have hal2:Hid ((ac++row.flatMap two).length+2≤(i+1)*120000002):=by show _≤_;have h1:=HLJ.out;have h2:=HL0.out;omega
      have HR3:Hid (((ac++row.flatMap two)++[0,0])++(rs.drop (i+1)).flatMap rowK=R):=by show _=_;rw[←HR2.out];unfold rowK;simp
      rw[htk]
      generalize ac++row.flatMap two=ax at HB hlen0 hal2 HR3
      clear HR2 HLJ htk
      go_wp2_with (first | (at_builtin;refine adl rfl _ _ rfl w1.heap.size _ ax rfl HB.out 0 0 0 0 rfl rfl 2 rfl hlen0 hsx ?_;intro a5 c5 w5 hown5 hb5 HO5))
      have el:(ax++[0,0]).length=ax.length+2:=by simp
      have hb15:=HBX.out.trans hb5
      go_roundw
      case rel=>exact⟨i+1,ax++[0,0],a5,c5,by omega,by first | rfl | go_num,by rw[el],by rw[el];exact hown5,HR3,by show _≤_;rw[el];exact hal2.out,hb15⟩
      case measure=>simp only[intOf];omega
   ·have hRR:R=ac:=by rw[←HR.out,List.drop_of_length_le (by rw[HRN.out];omega)];simp
    have hconv:=ag5 (P:=Tryz.prog) wr 78 9 5 Tryz.underlying78 Tryz.underlying5 Tryz.underlying9 w1.heap.size _ ac HB.out
    subst hRR
    clear HR
    go_wp2_with fail
    refine bodyPost_ret (key_results rfl rfl) rfl ?_
    exact⟨HB01.out.trans (hbr.mono hw1),.inl ⟨rfl,by rw[HKQ.out];rfl⟩⟩
 ·have hy1:(er==0)=false:=by simpa using her
  have hy2:(er !=0)=true:=by simpa using her
  go_wp2_with fail
  refine bodyPost_ret (key_results rfl rfl) rfl ?_
  exact⟨hb0.trans (hb1.mono hb0.size),.inr ⟨her,rfl⟩⟩
theorem ahead_cmpU: ∀a b:List Int,aat a b=cmpU a b:=by
 intro a
 induction a with
 | nil=>intro b;cases b<;>rfl
 | cons x a ih=>
  intro b
  cases b with
  | nil=>rfl
  | cons y b=>
   unfold aat cmpU
   rw[ih]
theorem rowsLv_at (sh back:Bool)(es:List El)(n i:Nat)(h:i<(acg sh back es n).length):(acg sh back es n)[i]=lev sh back i es:=by
 simp[acg]
theorem af2 {tmps:Array Value}{w:World}{a b:Value}(t2:tmps[8]?.getD undef=a)(t3:tmps[9]?.getD undef=b):(results Tryz.f14 tmps).run Tryz.prog w=.ok (.tuple #[a,b]) w:=by
 simp[results,Tryz.results14,go_sem,t2,t3]
set_option maxHeartbeats 16000000 in
set_option maxRecDepth 20000 in
theorem rcompare_any {xs ys:List El}{ex ey:Int}{th:Bool}{da ta:Option Addr}{dn dc tn tc:Nat}{s:Int}{sh back:Bool}{t1 t2:ByteArray}{w:World}(hlx:xs.length≤60000000)(hly:ys.length≤60000000)(hs:ex=0→1≤s∧s≤4)
  (helx: ∀W,Below w.heap.size w W→Calls Tryz.prog 32 #[.agg #[.bool th,.slice da dn dc,.slice ta tn tc],ag8 s sh back,.string t1] W fun e w'=>LvPost s sh back xs ex W e w')
  (hely: ∀W,Below w.heap.size w W→Calls Tryz.prog 32 #[.agg #[.bool th,.slice da dn dc,.slice ta tn tc],ag8 s sh back,.string t2] W fun e w'=>LvPost s sh back ys ey W e w'):
  Calls Tryz.prog 14 #[.agg #[.bool th,.slice da dn dc,.slice ta tn tc],ag8 s sh back,.string t1,.string t2] w fun e w'=>CmpPost s sh back xs ys ex ey w e w':=by
 have hbA:=(Below.refl w.heap.size w).alloc (Nat.le_refl _) (.cells #[.bool th,.slice da dn dc,.slice ta tn tc] 33)
 have hb0:=hbA.alloc (by simp) (.cells #[.int .i64 s,.bool sh,.bool back] 44)
 have hB1:=Blk.new w 33 #[.bool th,.slice da dn dc,.slice ta tn tc]
 have hC1:=Blk.new (w.alloc (.cells #[.bool th,.slice da dn dc,.slice ta tn tc] 33)) 44 #[.int .i64 s,.bool sh,.bool back]
 rw[show (w.alloc (.cells #[.bool th,.slice da dn dc,.slice ta tn tc] 33)).heap.size=w.heap.size+1 by simp] at hC1
 have hB2:Blk ((w.alloc (.cells #[.bool th,.slice da dn dc,.slice ta tn tc] 33)).alloc (.cells #[.int .i64 s,.bool sh,.bool back] 44)) w.heap.size 33 #[.bool th,.slice da dn dc,.slice ta tn tc]:=(Below.heap_alloc _ _ _ (by simp)).trans hB1
 have hel0:=helx _ hb0
 have HELY:Hid (∀W,Below w.heap.size w W→Calls Tryz.prog 32 #[.agg #[.bool th,.slice da dn dc,.slice ta tn tc],ag8 s sh back,.string t2] W fun e w'=>LvPost s sh back ys ey W e w'):=hely
 clear helx hely hbA hB1
 go_enter Tryz.func14,Tryz.ntmps14
 go_upto_region 1 with fail
 generalize (w.alloc (.cells #[.bool th,.slice da dn dc,.slice ta tn tc] 33)).alloc (.cells #[.int .i64 s,.bool sh,.bool back] 44)=w0 at*
 have b0:w0.cell? ⟨w.heap.size,0,none⟩=some (.bool th):=hB2.cell 0
 have b1:w0.cell? ⟨w.heap.size,1,none⟩=some (.slice da dn dc):=hB2.cell 1
 have b2:w0.cell? ⟨w.heap.size,2,none⟩=some (.slice ta tn tc):=hB2.cell 2
 have k0:w0.cell? ⟨w.heap.size+1,0,none⟩=some (.int .i64 s):=hC1.cell 0
 have k1:w0.cell? ⟨w.heap.size+1,1,none⟩=some (.bool sh):=hC1.cell 1
 have k2:w0.cell? ⟨w.heap.size+1,2,none⟩=some (.bool back):=hC1.cell 2
 go_wp2_with fail
 refine hel0.mono ?_
 rintro r w1 ⟨hb1,⟨rfl,v1,rfl,hown1⟩ | ⟨her,rfl⟩⟩
 case inr=>
  have hy1:(ex==0)=false:=by simpa using her
  have hy2:(ex !=0)=true:=by simpa using her
  go_wp2_with fail
  refine bodyPost_ret (af2 rfl rfl) rfl ?_
  exact⟨hb0.trans (hb1.mono hb0.size),.inr (.inl ⟨her,rfl⟩)⟩
 obtain⟨n,rfl⟩: ∃n:Nat,s=(n:Int):=⟨s.toNat,by have:=hs rfl;omega⟩
 have hn:n≤4:=by have:=hs rfl;omega
 have hb01:=hb0.trans (hb1.mono hb0.size)
 rw[Int.toNat_natCast] at hown1
 have l1:(acg sh back xs n).length=n:=aeb sh back xs n
 obtain⟨ra,rc,hv1⟩:=hown1.val
 rw[l1] at hv1
 subst hv1
 have HR1:Aside (RowsAt w1 w0.heap.size (.slice ra n rc) (acg sh back xs n)):=hown1
 have p0:=(hb1.cell (p:=⟨w.heap.size,0,none⟩) hB2.lt).trans b0
 have p1:=(hb1.cell (p:=⟨w.heap.size,1,none⟩) hB2.lt).trans b1
 have p2:=(hb1.cell (p:=⟨w.heap.size,2,none⟩) hB2.lt).trans b2
 have p3:=(hb1.cell (p:=⟨w.heap.size+1,0,none⟩) hC1.lt).trans k0
 have p4:=(hb1.cell (p:=⟨w.heap.size+1,1,none⟩) hC1.lt).trans k1
 have p5:=(hb1.cell (p:=⟨w.heap.size+1,2,none⟩) hC1.lt).trans k2
 have hel1:=HELY.out _ hb01
 clear hel0 b0 b1 b2 k0 k1 k2 hown1 HELY
 go_wp2_with fail
 refine hel1.mono ?_
 rintro r w2 ⟨hb2,⟨rfl,v2,rfl,hown2⟩ | ⟨her,rfl⟩⟩
 case inr=>
  have hy1:(ey==0)=false:=by simpa using her
  have hy2:(ey !=0)=true:=by simpa using her
  go_wp2_with fail
  refine bodyPost_ret (af2 rfl rfl) rfl ?_
  exact⟨hb01.trans (hb2.mono hb01.size),.inr (.inr ⟨rfl,her,rfl⟩)⟩
 have hb02:=hb01.trans (hb2.mono hb01.size)
 rw[Int.toNat_natCast] at hown2
 have l2:(acg sh back ys n).length=n:=aeb sh back ys n
 obtain⟨rb,rd,hv2⟩:=hown2.val
 rw[l2] at hv2
 subst hv2
 have HR2:Aside (RowsAt w2 w1.heap.size (.slice rb n rd) (acg sh back ys n)):=hown2
 have HR1':Aside (RowsAt w2 w0.heap.size (.slice ra n rc) (acg sh back xs n)):=HR1.out.go hb2
 have HB02:Aside (Below w.heap.size w w2):=hb02
 have hw2:=hb02.size
 have hQ:af3 sh back xs ys (List.range (n:Int).toNat)=af3 sh back xs ys ((List.range n).drop 0):=by rw[Int.toNat_natCast];rfl
 generalize hRR:af3 sh back xs ys (List.range (n:Int).toNat)=R at hQ
 have HQ:Hid (af3 sh back xs ys (List.range (n:Int).toNat)=R):=hRR
 have HR:Hid (af3 sh back xs ys ((List.range n).drop 0)=R):=hQ.symm
 clear hel1 p0 p1 p2 p3 p4 p5 hown2 hb0 hb1 hb2 hb01 hb02 hB2 hC1 HR1 hs hQ hRR l1 l2
 go_wp2_with fail
 go_loopw [14] (fun iv wr=> ∃(i:Nat),i≤n∧iv=.int .i64 i∧Hid (af3 sh back xs ys ((List.range n).drop i)=R)∧Aside (Below w2.heap.size w2 wr)) (fun iv _=>n-(intOf iv).toNat)
 case atStart=>exact⟨0,by omega,rfl,HR,Below.refl _ _⟩
 case round=>
  clear HR
  obtain⟨i,hi,rfl,HR,HBR⟩:=hrel
  by_cases hlt:i<n
  ·have h1:i<(acg sh back xs n).length:=by rw[aeb];exact hlt
   have h2:i<(acg sh back ys n).length:=by rw[aeb];exact hlt
   obtain⟨g1,ua,uc,rfl,hg1,hr1⟩:=RowsAt.read HR1'.out h1
   obtain⟨g2,va,vc,rfl,hg2,hr2⟩:=RowsAt.read HR2.out h2
   rw[rowsLv_at] at hg1 hr1 hg2 hr2
   have q1:=lev_len sh back i xs
   have q2:=lev_len sh back i ys
   have hHR:=HR.out
   rw[range_drop hlt] at hHR
   unfold af3 at hHR
   have HHR:Hid ((if cmpU (lev sh back i xs) (lev sh back i ys)=0 then af3 sh back xs ys ((List.range n).drop (i+1)) else cmpU (lev sh back i xs) (lev sh back i ys))=R):=hHR
   rw[←ahead_cmpU] at HHR
   generalize lev sh back i xs=r1 at hg1 hr1 q1 HHR
   generalize lev sh back i ys=r2 at hg2 hr2 q2 HHR
   obtain⟨wo,hwo⟩: ∃wo,wo=wr:=⟨_,rfl⟩
   subst hwo
   have y1:=(HBR.out.cell (p:=⟨g1,i,none⟩) (World.block_lt_of_cell? w2 _ hg1)).trans hg1
   have y2:=(HBR.out.cell (p:=⟨g2,i,none⟩) (World.block_lt_of_cell? w2 _ hg2)).trans hg2
   have HAH:Hid (∀X,Below wo.heap.size wo X→Calls Tryz.prog 34 #[.slice ua r1.length uc,.slice va r2.length vc] X fun e w'=>e=.returned (.int .i64 (aat r1 r2))∧Below wo.heap.size wo w'):=fun X hX=>by
    have hbX:=HBR.out.trans (hX.mono HBR.out.size)
    refine(ahead_any w2.heap.size w2.heap.size _ _ r1 r2 X (hr1.ints.below hbX (Nat.le_refl _)) (hr2.ints.below hbX (Nat.le_refl _)) (by omega) (by omega)).mono ?_
    rintro e w' ⟨rfl,k,rfl⟩
    exact⟨rfl,hX.trans ((abv X k).mono hX.size)⟩
   have hbd:Below wo.heap.size wo wo.drew:=(Below.refl _ wo).drew
   generalize aat r1 r2=c at HAH HHR
   generalize r1.length=m1 at y1 HAH
   generalize r2.length=m2 at y2 HAH
   clear hg1 hg2 hr1 hr2 q1 q2 hHR HR h1 h2
   go_upto_region 10 with fail
   go_cut [15] from 36 to 53 (fun v wx=>v=.int .i64 c∧Aside (Below wo.heap.size wo wx))
   case first=>
    go_region_with (first | (go_at_call 34;with_reducible refine(HAH.out _ (by assumption)).mono ?_;rintro e w3 ⟨rfl,hb3⟩))
    all_goals
     go_wp2_with fail
     go_meet
     exact⟨rfl,hb3⟩
   case rest=>
    obtain⟨rfl,HB3⟩:=hcut
    have HBY:Aside (Below w2.heap.size w2 wc):=HBR.out.trans (HB3.out.mono HBR.out.size)
    clear HAH hbd y1 y2 HB3 HBR
    by_cases hc:c=0
    ·have hc1:(c !=0)=false:=by simp[hc]
     have HRN:Hid (af3 sh back xs ys ((List.range n).drop (i+1))=R):=by have h:=HHR.out;rw[if_pos hc] at h;exact h
     clear HHR hc
     go_wp2_with fail
     go_roundw
     case rel=>exact⟨i+1,by omega,by first | rfl | go_num,HRN,HBY⟩
     case measure=>simp only[intOf];omega
    ·have hc1:(c !=0)=true:=by simp[hc]
     have hRc:R=c:=by have h:=HHR.out;rw[if_neg hc] at h;exact h.symm
     clear HHR hc
     go_wp2_with fail
     refine bodyPost_ret (af2 rfl rfl) rfl ?_
     exact⟨HB02.out.trans (HBY.out.mono hw2),.inl ⟨rfl,rfl,by rw[HQ.out,hRc];rfl⟩⟩
  ·have hR0:R=0:=by rw[←HR.out,List.drop_of_length_le (by simp;omega)];rfl
   clear HR
   go_wp2_with fail
   refine bodyPost_ret (af2 rfl rfl) rfl ?_
   exact⟨HB02.out.trans (HBR.out.mono hw2),.inl ⟨rfl,rfl,by rw[HQ.out,hR0];rfl⟩⟩
theorem drew_more {w wr:World}(h: ∃n,wr=w.drewN n): ∃n,wr.drew=w.drewN n:=by
 obtain⟨n,e⟩:=h
 exact⟨n+1,by rw[e];rfl⟩
set_option maxHeartbeats 4000000 in
set_option maxRecDepth 20000 in
theorem sameInts_q (va vb:Value)(za zb:List Int)(n₁ n₂:Nat)(w:World)(ha:Ints n₁ w va za)(hb:Ints n₂ w vb zb)(hla:za.length≤4611686018427387904)(_hlb:zb.length≤4611686018427387904):
  Calls Tryz.prog 92 #[va,vb] w fun e w'=>e=.returned (.bool (decide (za=zb)))∧ ∃n,w'=w.drewN n:=by
 obtain⟨R,HR⟩: ∃R,Hid (R=decide (za=zb)):=⟨_,rfl⟩
 rw[←HR.out]
 by_cases hl:za.length=zb.length
 ·rcases Nat.eq_zero_or_pos za.length with h0 | h0
  ·obtain⟨x,c,rfl⟩:=ha.val
   obtain⟨y,d,rfl⟩:=hb.val
   have hb0:zb.length=0:=by omega
   have hR:R=true:=by rw[HR.out,List.eq_nil_of_length_eq_zero h0,List.eq_nil_of_length_eq_zero hb0];rfl
   rw[h0,hb0]
   clear ha hb h0 hb0 hl hla
   go_enter Tryz.func92,Tryz.ntmps92
   go_wp2
   go_loopw [5] (fun i wr=>i=.int .i64 0∧wr=w) (fun _ _=>0)
   case atStart=>exact⟨rfl,rfl⟩
   case round=>
    obtain⟨rfl,rfl⟩:=hrel
    go_wp2
    go_ret
    exact⟨by rw[hR];rfl,⟨0,rfl⟩⟩
  ·rcases ha with ⟨_,_,_,h⟩ | ⟨b1,o1,c1,rfl,hb1,hc1⟩
   ·rw[h] at h0;simp at h0
   rcases hb with ⟨_,_,_,h⟩ | ⟨b2,o2,c2,rfl,hb2,hc2⟩
   ·rw[hl,h] at h0;simp at h0
   rw[←hl]
   rw[←hl] at hc2
   obtain⟨L,hL⟩: ∃L,L=za.length:=⟨_,rfl⟩
   have HL:Hid (L=za.length∧L=zb.length):=⟨hL,by rw[hL];exact hl⟩
   rw[←hL] at hc1 hc2 hla h0⊢
   clear hl hL
   go_enter Tryz.func92,Tryz.ntmps92
   go_wp2
   go_loopw [5] (fun i wr=> ∃k:Nat,k≤L∧i=.int .i64 k∧Hid (R=decide (za.drop k=zb.drop k))∧(∃n,wr=w.drewN n)∧(∀a,wr.cell? a=w.cell? a)) (fun i _=>L-(intOf i).toNat)
   case atStart=>exact⟨0,Nat.zero_le _,rfl,HR,⟨0,rfl⟩,fun _=>rfl⟩
   case round=>
    obtain⟨k,hk,rfl,HK,hbel,hsame⟩:=hrel
    by_cases hlt:k<L
    ·have x1:=(hsame _).trans (hc1 k hlt)
     have x2:=(hsame _).trans (hc2 k hlt)
     have hK:=HK.out
     rw[drop_getD za k (by rw[←HL.out.1];exact hlt),drop_getD zb k (by rw[←HL.out.2];exact hlt)] at hK
     obtain⟨p,hp⟩: ∃p,p=za[k]?.getD 0:=⟨_,rfl⟩
     obtain⟨q,hq⟩: ∃q,q=zb[k]?.getD 0:=⟨_,rfl⟩
     rw[←hp] at x1 hK
     rw[←hq] at x2 hK
     have HS:Hid (∀a,wr.cell? a=w.cell? a):=hsame
     clear hp hq HK hc1 hc2 hsame
     by_cases hpq:p=q
     ·have HK2:Hid (R=decide (za.drop (k+1)=zb.drop (k+1))):=by show _=_;rw[hK,hpq];simp
      have t1:(p==q)=true:=by simpa using hpq
      have t2:(p !=q)=false:=by simpa using hpq
      clear hK hpq
      go_wp2
      go_region
      go_wp2
      go_roundw
      case rel=>exact⟨k+1,by omega,by go_num,HK2,drew_more hbel,HS.out⟩
      case measure=>simp[intOf];omega
     ·have hR:R=false:=by rw[hK];simp[hpq]
      have t1:(p==q)=false:=by simpa using hpq
      have t2:(p !=q)=true:=by simpa using hpq
      clear hK hpq
      go_wp2
      go_region
      go_wp2
      go_ret
      exact⟨by first | (rw[hR];rfl) | rfl,drew_more hbel⟩
    ·obtain rfl:k=L:=by omega
     have hR:R=true:=by
      rw[HK.out,List.drop_eq_nil_of_le (by rw[←HL.out.1];exact Nat.le_refl _),List.drop_eq_nil_of_le (by rw[←HL.out.2];exact Nat.le_refl _)];rfl
     clear HK
     go_wp2
     go_ret
     exact⟨by first | (rw[hR];rfl) | rfl,hbel⟩
 ·obtain⟨x,c,rfl⟩:=ha.val
  obtain⟨y,d,rfl⟩:=hb.val
  have hR:R=false:=by rw[HR.out];simp;intro h;exact hl (by rw[h])
  clear ha hb
  go_enter Tryz.func92,Tryz.ntmps92
  go_wp2
  go_ret
  exact⟨by rw[hR];rfl,⟨0,rfl⟩⟩
end Go.Proofs.YtpfkoldfbecdlaaGreatDoor
