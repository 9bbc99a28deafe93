/- Contracts and lemmas (nothing is claimed here). -/
import Derived.Test.YtpfkoldfbecdlaaGreatDoorJ37
import Derived.Test.YtpfkoldfbecdlaaGreatDoorWgH
import Derived.ProofKit
import Derived.OpenShut
import Derived.Lib.SmallJoins
import Derived.Test.YtpfkoldfbecdlaaGreatDoorJ7
import Derived.Test.YtpfkoldfbecdlaaGreatDoorJ35
import Derived.Test.YtpfkoldfbecdlaaGreatDoorJ36
import Derived.Test.YtpfkoldfbecdlaaGreatDoorRows
namespace Go.Proofs.YtpfkoldfbecdlaaGreatDoor
open Go.RowKit Go.Vf Go.Maps
theorem sameInts_b (va vb:Value)(za zb:List Int)(n₁ n₂:Nat)(w:World)(ha:Ints n₁ w va za)(hb:Ints n₂ w vb zb)(hla:za.length≤4611686018427387904)(hlb:zb.length≤4611686018427387904):
  Calls Tryz.prog 92 #[va,vb] w fun e w'=>e=.returned (.bool (decide (za=zb)))∧Below w.heap.size w w':=by
 refine(sameInts_q va vb za zb n₁ n₂ w ha hb hla hlb).mono ?_
 rintro e w' ⟨he,n,rfl⟩
 exact⟨he,abv _ _⟩
set_option maxHeartbeats 8000000 in
set_option maxRecDepth 20000 in
theorem rsame_load {t:List UInt8}{L:List Mk}{E:Int→List Int}(h:aav t=.ok (L,E)){da:Option Addr}{dn dc:Nat}(a:Option Addr)(kz cz:Nat)(zs X:List Int)(b:Option Addr)(ky cy:Nat)(ys Y:List Int)(w:World)(hin:MIn w.heap.size w (.slice da dn dc) (aap L))(hz:Numb w a kz cz zs)(hy:Numb w b ky cy ys)(h57: ∀q,(aao E q).length≤57∧0<(aao E q).length)(hzl:zs.length≤2097152)(hyl:ys.length≤2097152)(hX:acq L E zs X)(hXl:X.length≤68719476736)(hY:acq L E ys Y)(hYl:Y.length≤68719476736):
  Calls Tryz.prog 39 #[.agg #[.slice da dn dc],.slice a kz cz,.slice b ky cy] w fun e w'=>e=.returned (.bool (decide (X=Y)))∧Below w.heap.size w w':=by
 have hb0:=(Below.refl w.heap.size w).alloc (Nat.le_refl _) (.cells #[.slice da dn dc] 28)
 have hn0:=Blk.new w 28 #[.slice da dn dc]
 have hm0:=hin.go hb0
 obtain⟨R,HR⟩: ∃R,Hid (R=decide (X=Y)):=⟨_,rfl⟩
 rw[←HR.out]
 go_enter Tryz.func39,Tryz.ntmps39
 go_upto_region 1 with fail
 have hz0:=hz.below hb0
 have hy0:=hy.below hb0
 generalize w.alloc (.cells #[.slice da dn dc] 28)=W at hb0 hn0 hm0 hz0 hy0⊢
 have x0:W.cell? ⟨w.heap.size,0,none⟩=some (.slice da dn dc):=hn0.cell 0
 -- what each call answers, wherever it stands
 have HPa:Hid (∀x:World,Below W.heap.size W x→Calls Tryz.prog 93 #[.agg #[.slice da dn dc],.slice a kz cz] x fun e w'=> ∃a1 n1 c1,e=.returned (.slice a1 n1 c1)∧Aside (Ints w'.heap.size w' (.slice a1 n1 c1) X)∧Below W.heap.size W w'∧Below x.heap.size x w'):=fun x hx=>(rform_load h a kz cz zs x (hm0.go hx) (hz0.below hx) h57 hzl).mono fun e w' ⟨a1,n1,c1,Z,e1,ho,hf,hb⟩=>by
  obtain rfl:Z=X:=hf.same hX
  exact⟨a1,n1,c1,e1,ho.ints,hx.trans (hb.mono hx.size),hb⟩
 have HPb:Hid (∀x:World,Below W.heap.size W x→Calls Tryz.prog 93 #[.agg #[.slice da dn dc],.slice b ky cy] x fun e w'=> ∃a2 n2 c2,e=.returned (.slice a2 n2 c2)∧Aside (Ints w'.heap.size w' (.slice a2 n2 c2) Y)∧Below W.heap.size W w'∧Below x.heap.size x w'):=fun x hx=>(rform_load h b ky cy ys x (hm0.go hx) (hy0.below hx) h57 hyl).mono fun e w' ⟨a1,n1,c1,Z,e1,ho,hf,hb⟩=>by
  obtain rfl:Z=Y:=hf.same hY
  exact⟨a1,n1,c1,e1,ho.ints,hx.trans (hb.mono hx.size),hb⟩
 have HKC:Hid (∀x:World,Below W.heap.size W x→x.cell? ⟨w.heap.size,0,none⟩=some (.slice da dn dc)):=fun x hx=>(hx.cell (p:=⟨w.heap.size,0,none⟩) hn0.lt).trans x0
 have HX0:Hid (X.length≤68719476736∧Y.length≤68719476736):=⟨hXl,hYl⟩
 clear hn0 hm0 hz0 hy0 hz hy hin hX hY h57 hXl hYl hzl hyl h
 have bW:Below W.heap.size W W.drew:=(Below.refl _ _).drew
 have xW:W.drew.cell? ⟨w.heap.size,0,none⟩=some (.slice da dn dc):=x0
 go_region_with (first
  | (go_at_call 93;with_reducible refine(HPa.out _ (by assumption)).mono ?_;rintro e wA ⟨a1,n1,c1,rfl,hiA,hbA,hxA⟩;have xA:=HKC.out _ hbA)
  | (go_at_call 93;with_reducible refine(HPb.out _ (by assumption)).mono ?_;rintro e wB ⟨a2,n2,c2,rfl,hiB,hbB,hxB⟩;have xB:=HKC.out _ hbB)
  | (go_at_call 92;with_reducible refine(sameInts_b _ _ X Y _ _ _ (hiA.out.below hxB (Nat.le_refl _)) hiB.out (by have:=HX0.out;omega) (by have:=HX0.out;omega)).mono ?_;rintro e wC ⟨rfl,hbC⟩)
  | (go_at_call 92;with_reducible refine(sameInts_b _ _ X Y _ _ _ hiA.out (hiB.out.below hxA (Nat.le_refl _)) (by have:=HX0.out;omega) (by have:=HX0.out;omega)).mono ?_;rintro e wC ⟨rfl,hbC⟩))
 all_goals go_wp2
 all_goals go_ret
 all_goals refine⟨by rw[HR.out];rfl,?_⟩
 all_goals first | exact hb0.trans ((hbB.trans (hbC.mono hbB.size)).mono hb0.size) | exact hb0.trans ((hbA.trans (hbC.mono hbA.size)).mono hb0.size)
theorem aci {tmps:Array Value}{w:World}{a b:Value}(t2:tmps[6]?.getD undef=a)(t3:tmps[7]?.getD undef=b):(results Tryz.f16 tmps).run Tryz.prog w=.ok (.tuple #[a,b]) w:=by
 simp[results,Tryz.results16,go_sem,t2,t3]
set_option maxHeartbeats 2000000 in
set_option maxRecDepth 20000 in
theorem rwsame_nil (da:Option Addr)(dn dc:Nat)(ta:Option Addr)(tn tc:Nat)(t1 t2:ByteArray)(w:World):Calls Tryz.prog 16 #[.agg #[.bool false,.slice da dn dc,.slice ta tn tc],.string t1,.string t2] w fun e w'=>e=.returned (.tuple #[.bool false,.int .i64 3])∧Below w.heap.size w w':=by
 have hb0:=(Below.refl w.heap.size w).alloc (Nat.le_refl _) (.cells #[.bool false,.slice da dn dc,.slice ta tn tc] 33)
 have hB1:=Blk.new w 33 #[.bool false,.slice da dn dc,.slice ta tn tc]
 go_enter Tryz.func16,Tryz.ntmps16
 go_upto_region 1 with fail
 generalize w.alloc (.cells #[.bool false,.slice da dn dc,.slice ta tn tc] 33)=W at*
 have b0:W.cell? ⟨w.heap.size,0,none⟩=some (.bool false):=hB1.cell 0
 go_wp2_with fail
 refine bodyPost_ret (aci rfl rfl) rfl ?_
 exact⟨rfl,hb0⟩
set_option maxHeartbeats 8000000 in
set_option maxRecDepth 20000 in
theorem rwsame_any {v:Value}{L:List Mk}{F:Int→List Int}{l:List Ent}{w:World}(h:Doc8 w v L F l){ta tb:ByteArray}(hsa:ta.size≤4294967296)(hsb:tb.size≤4294967296){ps qs:List Nat}{ra rb:List UInt8}{X Y:List Int}(ha:Spelt L F ta ps ra X)(hb:Spelt L F tb qs rb Y)(hXl:X.length≤57*ps.length)(hYl:Y.length≤57*qs.length):
  Calls Tryz.prog 16 #[v,.string ta,.string tb] w fun e w'=>e=.returned (.tuple #[.bool (smB ta.size tb.size ra rb X Y),.int .i64 (smE ta.size tb.size ra rb)])∧Below w.heap.size w w':=by
 obtain⟨da,dn,dc,tv,rfl,hD0,hT0⟩:=h.val
 obtain⟨t0,tc,rfl⟩:=hT0.inn.val
 obtain⟨t,hld⟩:=h.load
 have H57:Hid (∀q,(aao F q).length≤57∧0<(aao F q).length):=h.h57
 have HLD:Hid (aav t=.ok (L,F)):=hld
 generalize l.length=tn
 obtain⟨er,her⟩: ∃er,er=smE ta.size tb.size ra rb:=⟨_,rfl⟩
 obtain⟨eb,heb⟩: ∃eb,eb=smB ta.size tb.size ra rb X Y:=⟨_,rfl⟩
 rw[←her,←heb]
 have HER:Hid (er=smE ta.size tb.size ra rb):=her
 have HEB:Hid (eb=smB ta.size tb.size ra rb X Y):=heb
 have HA:Hid (Spelt L F ta ps ra X):=ha
 have HB:Hid (Spelt L F tb qs rb Y):=hb
 have hb0:=(Below.refl w.heap.size w).alloc (Nat.le_refl _) (.cells #[.bool true,.slice da dn dc,.slice t0 tn tc] 33)
 have hB1:=Blk.new w 33 #[.bool true,.slice da dn dc,.slice t0 tn tc]
 have hM0:=hD0.go hb0
 clear her heb ha hb h hT0 hD0 hld
 go_enter Tryz.func16,Tryz.ntmps16
 go_upto_region 1 with fail
 generalize w.alloc (.cells #[.bool true,.slice da dn dc,.slice t0 tn tc] 33)=W at*
 have hwW:=hb0.size
 have b0:W.cell? ⟨w.heap.size,0,none⟩=some (.bool true):=hB1.cell 0
 by_cases h1:65536<ta.size
 ·have e1:er=2:=by rw[HER.out];unfold smE;rw[if_pos (.inl h1)]
  have e2:eb=false:=by rw[HEB.out];unfold smB smE;rw[if_pos (.inl h1)];rfl
  have hz1:decide ((65536:Int)<(ta.size:Int))=true:=by simp;omega
  subst e1 e2
  clear h1
  go_wp2_with fail
  refine bodyPost_ret (aci rfl rfl) rfl ?_
  exact⟨rfl,hb0⟩
 have hz1:decide ((65536:Int)<(ta.size:Int))=false:=by simp;omega
 by_cases h2:65536<tb.size
 ·have e1:er=2:=by rw[HER.out];unfold smE;rw[if_pos (.inr h2)]
  have e2:eb=false:=by rw[HEB.out];unfold smB smE;rw[if_pos (.inr h2)];rfl
  have hz2:decide ((65536:Int)<(tb.size:Int))=true:=by simp;omega
  subst e1 e2
  clear h1 h2
  go_wp2_with fail
  refine bodyPost_ret (aci rfl rfl) rfl ?_
  exact⟨rfl,hb0⟩
 have hz2:decide ((65536:Int)<(tb.size:Int))=false:=by simp;omega
 have hn: ¬(65536<ta.size∨65536<tb.size):=by omega
 have HE3:Hid (er=if ra=[]∧rb=[] then 0 else 30):=by show _=_;rw[HER.out];unfold smE;rw[if_neg hn]
 have HE4:Hid (eb=(decide (er=0)&&decide (X=Y))):=by show _=_;rw[HEB.out,HER.out];rfl
 have hla:=HA.out.len
 have hlb:=HB.out.len
 have HZ:Hid (ps.length≤65536∧qs.length≤65536):=⟨by omega,by omega⟩
 clear HER HEB hn h1 h2 hla hlb
 go_wp2_with fail
 refine(adf ta hsa ps ra HA.out.split HA.out.pts HA.out.rest W).mono ?_
 rintro e w1 ⟨hp1,hb1⟩
 have hb01:=hb0.trans (hb1.mono hwW)
 have hw1:=hb1.size
 rcases hp1 with ⟨hr0,v1,rfl,hown1⟩ | ⟨hr0,rfl⟩
 ·obtain⟨a1,c1,rfl⟩:=hown1.val
  have HN1:Hid (Numb w1 a1 (ps.map fun p:Nat=>(p:Int)).length c1 (ps.map fun p:Nat=>(p:Int))):=IOwn.numb hown1 (pts_in HA.out.pts) (by have:=HZ.out.1;rw[List.length_map];omega)
  generalize (ps.map fun p:Nat=>(p:Int)).length=pn at HN1 hown1⊢
  clear hown1
  go_wp2_with fail
  refine(adf tb hsb qs rb HB.out.split HB.out.pts HB.out.rest w1).mono ?_
  rintro e w2 ⟨hp2,hb2⟩
  have hb02:=hb01.trans (hb2.mono hb01.size)
  rcases hp2 with ⟨hr1,v2,rfl,hown2⟩ | ⟨hr1,rfl⟩
  ·obtain⟨a2,c2,rfl⟩:=hown2.val
   have hn2:Numb w2 a2 (qs.map fun p:Nat=>(p:Int)).length c2 (qs.map fun p:Nat=>(p:Int)):=IOwn.numb hown2 (pts_in HB.out.pts) (by have:=HZ.out.2;rw[List.length_map];omega)
   have hb12:=hb1.trans (hb2.mono hw1)
   have hc:=rsame_load HLD.out a1 _ c1 _ X a2 _ c2 _ Y w2 (hM0.go hb12) (HN1.out.below hb2) hn2 H57.out (by rw[List.length_map];have:=HZ.out.1;omega) (by rw[List.length_map];have:=HZ.out.2;omega) HA.out.form.form (by have:=HZ.out.1;omega) HB.out.form.form (by have:=HZ.out.2;omega)
   have q1:w2.cell? ⟨w.heap.size,1,none⟩=some (.slice da dn dc):=(hb12.cell (p:=⟨w.heap.size,1,none⟩) hB1.lt).trans (hB1.cell 1)
   have e1:er=0:=by rw[HE3.out,if_pos ⟨hr0,hr1⟩]
   have e2:eb=decide (X=Y):=by rw[HE4.out,e1];simp
   rw[←e2] at hc
   subst e1
   generalize (qs.map fun p:Nat=>(p:Int)).length=qn at hc⊢
   clear hn2 hown2 e2 HE3 HE4 HN1 hr0 hr1 b0 hb12
   go_wp2_with fail
   refine hc.mono ?_
   clear hc q1
   rintro _ w3 ⟨rfl,hb3⟩
   go_wp2_with fail
   refine bodyPost_ret (aci rfl rfl) rfl ?_
   exact⟨rfl,hb02.trans (hb3.mono hb02.size)⟩
  ·have e1:er=30:=by rw[HE3.out,if_neg (fun h=>hr1 h.2)]
   have e2:eb=false:=by rw[HE4.out,e1];simp
   subst e1 e2
   clear HE3 HE4
   go_wp2_with fail
   refine bodyPost_ret (aci rfl rfl) rfl ?_
   exact⟨rfl,hb02⟩
 ·have e1:er=30:=by rw[HE3.out,if_neg (fun h=>hr0 h.1)]
  have e2:eb=false:=by rw[HE4.out,e1];simp
  subst e1 e2
  clear HE3 HE4
  go_wp2_with fail
  refine(adf tb hsb qs rb HB.out.split HB.out.pts HB.out.rest w1).mono ?_
  rintro e w2 ⟨hp2,hb2⟩
  have hb02:=hb01.trans (hb2.mono hb01.size)
  rcases hp2 with ⟨hr1,v2,rfl,hown2⟩ | ⟨hr1,rfl⟩
  ·go_wp2_with fail
   refine bodyPost_ret (aci rfl rfl) rfl ?_
   exact⟨rfl,hb02⟩
  ·go_wp2_with fail
   refine bodyPost_ret (aci rfl rfl) rfl ?_
   exact⟨rfl,hb02⟩
end Go.Proofs.YtpfkoldfbecdlaaGreatDoor
namespace Go.Proofs.YtpfkoldfbecdlaaGreatDoor
open Go.ChangeShapes Go.WideShapes Go.ChangeAt Go.RowKit Go.Vf Go.Maps
theorem same_nil (a b:ByteArray)(w:World):Calls Tryz.prog 15 #[.pointer none,.string a,.string b] w fun e w'=>e=.returned (.tuple #[.bool false,.int .i64 3])∧w=w':=by
 go_enter Tryz.func15,Tryz.ntmps15
 go_wp2_with fail
 go_ret2
 exact⟨rfl,rfl⟩
end Go.Proofs.YtpfkoldfbecdlaaGreatDoor
namespace Go.Proofs.YtpfkoldfbecdlaaGreatDoor
open Go.RowKit Go.Vf Go.Maps
structure WelF (b bd T:Nat)(L:List Mk)(F:Int→List Int)(E:List Ent)(s:Int)(sh back:Bool)(txt:ByteArray)(es:List El)(er:Int):Prop where
 why:er=0∨er=1∨er=2∨er=30
 rg:er=0→1≤s∧s≤4
 ok: ∀e∈es,WtOk e
 few:es.length≤60000000
 call: ∀(w:World),TbAt w b bd T L F E→Tabs w→ ∀W,Below w.heap.size w W→Calls Tryz.prog 28 #[.pointer (some ⟨b,0,none⟩),ag8 s sh back,.string txt] W fun e w'=>ElPost es er W e w'
def keyG (s:Int)(sh back:Bool)(es:List El)(er:Int):ByteArray:=if er=0 then bs (keyLv s.toNat sh back es) else ⟨#[]⟩
def cmpG (s:Int)(sh back:Bool)(xs ys:List El)(ex ey:Int):Int:=if ex=0∧ey=0 then af3 sh back xs ys (List.range s.toNat) else 0
def errG (ex ey:Int):Int:=if ex=0 then ey else ex
section
variable {b bd T:Nat}{L:List Mk}{F:Int→List Int}{E:List Ent}{s:Int}{sh back:Bool}{ta tb:ByteArray}{xs ys:List El}{ex ey:Int}{w:World}
theorem key_g (h:WelF b bd T L F E s sh back ta xs ex)(ht:TbAt w b bd T L F E)(htb:Tabs w):Calls Tryz.prog 11 #[.pointer (some ⟨b,0,none⟩),ag8 s sh back,.string ta] w fun e w'=>e=.returned (.tuple #[.string (keyG s sh back xs ex),.int .i64 ex])∧Below w.heap.size w w':=by
 refine(key_any h.ok h.few h.rg (h.call w ht htb)).mono ?_
 rintro e w' ⟨hb,⟨rfl,rfl⟩ | ⟨h0,rfl⟩⟩
 ·exact⟨by simp[keyG],hb⟩
 ·exact⟨by simp[keyG,h0],hb⟩
theorem cmp_g (h:WelF b bd T L F E s sh back ta xs ex)(h':WelF b bd T L F E s sh back tb ys ey)(ht:TbAt w b bd T L F E)(htb:Tabs w):Calls Tryz.prog 13 #[.pointer (some ⟨b,0,none⟩),ag8 s sh back,.string ta,.string tb] w fun e w'=>e=.returned (.tuple #[.int .i64 (cmpG s sh back xs ys ex ey),.int .i64 (errG ex ey)])∧Below w.heap.size w w':=by
 refine(wcompare_any h.ok h'.ok h.few h'.few h.rg (h.call w ht htb) (h'.call w ht htb)).mono ?_
 rintro e w' ⟨hb,⟨rfl,rfl,rfl⟩ | ⟨h0,rfl⟩ | ⟨rfl,h0,rfl⟩⟩
 ·exact⟨by simp[cmpG,errG],hb⟩
 ·exact⟨by simp[cmpG,errG,h0],hb⟩
 ·exact⟨by simp[cmpG,errG,h0],hb⟩
end
theorem loadW_part {m e:List UInt8}{L:List Mk}{F:Int→List Int}{E:List Ent}(h:aeo m e=.ok ((L,F),E)):aav m=.ok (L,F)∧ado e=.ok E:=by
 unfold aeo at h
 cases hm:aav m with
 | error q=>obtain⟨a,b⟩:=q;rw[hm] at h;cases h
 | ok d=>
  rw[hm] at h
  cases ht:ado e with
  | error q=>obtain⟨a,b⟩:=q;rw[ht] at h;cases h
  | ok E'=>rw[ht] at h;cases h;exact⟨rfl,rfl⟩
theorem rt_of {s:List UInt8}{E l:List Ent}{n₀:Nat}{W:World}{v:Value}(h:ado s=.ok E)(hr:RiseE l)(hp:l.Perm E)(hi:NIn n₀ W v l):RT n₀ W v l:=by
 obtain⟨h1,_,h3⟩:=loadT_ok h
 have q: ∀e∈l,EntOk e:=fun e he=>h1 e (hp.mem_iff.1 he)
 exact⟨hr,by rw[hp.length_eq];omega,fun e he=>by have:=(ab2 (q e he).row).2;omega,fun e he=>(q e he).n1,hi⟩
theorem fnd_perm {s:List UInt8}{E l:List Ent}(h:ado s=.ok E)(hp:l.Perm E):aaw l=aaw E∧af7 l=af7 E:=by
 obtain⟨_,h2,_⟩:=loadT_ok h
 have q: ∀p,acm l p=acm E p:=findT_perm hp h2
 exact⟨funext fun p=>by unfold aaw;rw[q],funext fun p=>by unfold af7;rw[q]⟩
structure Vals where
 ka:ByteArray
 ea:Int
 kb:ByteArray
 eb:Int
 c:Int
 ec:Int
 sb:Bool
 es:Int
def RetT (x y:Value)(W:World)(e:Ending)(w':World):Prop:=e=.returned (.tuple #[x,y])∧Below W.heap.size W w'
structure PAns (w:World)(ptr:Value)(s:Int)(sh back:Bool)(a b:ByteArray)(K:Vals):Prop where
 key_a: ∀W,Below w.heap.size w W→Calls Tryz.prog 11 #[ptr,ag8 s sh back,.string a] W (RetT (.string K.ka) (.int .i64 K.ea) W)
 key_b: ∀W,Below w.heap.size w W→Calls Tryz.prog 11 #[ptr,ag8 s sh back,.string b] W (RetT (.string K.kb) (.int .i64 K.eb) W)
 cmp: ∀W,Below w.heap.size w W→Calls Tryz.prog 13 #[ptr,ag8 s sh back,.string a,.string b] W (RetT (.int .i64 K.c) (.int .i64 K.ec) W)
 same: ∀W,Below w.heap.size w W→Calls Tryz.prog 15 #[ptr,.string a,.string b] W (RetT (.bool K.sb) (.int .i64 K.es) W)
structure DAns (w:World)(v:Value)(s:Int)(sh back:Bool)(a b:ByteArray)(K:Vals):Prop where
 key_a: ∀W,Below w.heap.size w W→Calls Tryz.prog 12 #[v,ag8 s sh back,.string a] W (RetT (.string K.ka) (.int .i64 K.ea) W)
 key_b: ∀W,Below w.heap.size w W→Calls Tryz.prog 12 #[v,ag8 s sh back,.string b] W (RetT (.string K.kb) (.int .i64 K.eb) W)
 cmp: ∀W,Below w.heap.size w W→Calls Tryz.prog 14 #[v,ag8 s sh back,.string a,.string b] W (RetT (.int .i64 K.c) (.int .i64 K.ec) W)
 same: ∀W,Below w.heap.size w W→Calls Tryz.prog 16 #[v,.string a,.string b] W (RetT (.bool K.sb) (.int .i64 K.es) W)
def nilV:Vals:=⟨⟨#[]⟩,3,⟨#[]⟩,3,0,3,false,3⟩
theorem pans_nil (w:World)(s:Int)(sh back:Bool)(a b:ByteArray):PAns w (.pointer none) s sh back a b nilV where
 key_a W _:=(key_nil s sh back a W).mono fun _ _ h=>h
 key_b W _:=(key_nil s sh back b W).mono fun _ _ h=>h
 cmp W _:=(wcompare_nil s sh back a b W).mono fun _ _ h=>h
 same W _:=(same_nil a b W).mono fun _ _ h=>⟨h.1,h.2▸Below.refl _ _⟩
theorem dans_nil (w:World)(s:Int)(sh back:Bool)(a b:ByteArray):DAns w (.agg #[.bool false,.slice none 0 0,.slice none 0 0]) s sh back a b nilV where
 key_a W _:=(rkey_any (es:=[]) (er:=3) (by simp) (by simp) (fun h=>absurd h (by decide)) (fun W' _=>(afj _ _ ⟨_,_,_,rfl⟩ ⟨_,_,_,rfl⟩ s sh back a W').mono fun e w' h=>⟨h.2,.inr ⟨by decide,h.1⟩⟩)).mono fun e w' ⟨hb,h⟩=>by
  rcases h with ⟨h,_⟩ | ⟨_,h⟩
  ·exact absurd h (by decide)
  ·exact⟨h,hb⟩
 key_b W _:=(rkey_any (es:=[]) (er:=3) (by simp) (by simp) (fun h=>absurd h (by decide)) (fun W' _=>(afj _ _ ⟨_,_,_,rfl⟩ ⟨_,_,_,rfl⟩ s sh back b W').mono fun e w' h=>⟨h.2,.inr ⟨by decide,h.1⟩⟩)).mono fun e w' ⟨hb,h⟩=>by
  rcases h with ⟨h,_⟩ | ⟨_,h⟩
  ·exact absurd h (by decide)
  ·exact⟨h,hb⟩
 cmp W _:=(rcompare_any (xs:=[]) (ys:=[]) (ex:=3) (ey:=3) (by simp) (by simp) (fun h=>absurd h (by decide)) (fun W' _=>(afj _ _ ⟨_,_,_,rfl⟩ ⟨_,_,_,rfl⟩ s sh back a W').mono fun e w' h=>⟨h.2,.inr ⟨by decide,h.1⟩⟩)
  (fun W' _=>(afj _ _ ⟨_,_,_,rfl⟩ ⟨_,_,_,rfl⟩ s sh back b W').mono fun e w' h=>⟨h.2,.inr ⟨by decide,h.1⟩⟩)).mono fun e w' ⟨hb,h⟩=>by
  rcases h with ⟨h,_⟩ | ⟨_,h⟩ | ⟨h,_⟩
  ·exact absurd h (by decide)
  ·exact⟨h,hb⟩
  ·exact absurd h (by decide)
 same W _:=(rwsame_nil none 0 0 none 0 0 a b W).mono fun _ _ h=>h
def esOf (L:List Mk)(E:List Ent)(X:List Int)(er:Int):List El:=if er=0 then wEls L E X else []
def okV (L:List Mk)(E:List Ent)(s:Int)(sh back:Bool)(a b:ByteArray)(ra rb:List UInt8)(X Y:List Int):Vals:=
 let ea:=ad5 s sh a.size ra
 let eb:=ad5 s sh b.size rb
 ⟨keyG s sh back (esOf L E X ea) ea,ea,keyG s sh back (esOf L E Y eb) eb,eb,cmpG s sh back (esOf L E X ea) (esOf L E Y eb) ea eb,errG ea eb,smB a.size b.size ra rb X Y,smE a.size b.size ra rb⟩
theorem ac7 {s:Int}{sh:Bool}{n:Nat}{r:List UInt8}(h:ad5 s sh n r=0):n≤65536∧(1≤s∧s≤4):=by
 unfold ad5 at h
 split at h
 ·rename_i hr
  refine⟨?_,right_in hr⟩
  split at h
  ·cases h
  ·omega
 ·cases h
theorem elErr_of (s:Int)(sh:Bool)(n:Nat)(r:List UInt8):ad5 s sh n r=0∨ad5 s sh n r=1∨ad5 s sh n r=2∨ad5 s sh n r=30:=by
 unfold ad5
 repeat' split
 all_goals simp
theorem esOf_ok {E:List Ent}(hok: ∀e∈E,EntOk e)(L:List Mk){X:List Int}{er:Int}(h:er=0→X.length≤3750000):(∀e∈esOf L E X er,WtOk e)∧(esOf L E X er).length≤60000000:=by
 unfold esOf
 split
 ·rename_i h0
  have h1:=h h0
  have h2:=elsOf_len hok (aax (aaa L) (aaw E) X)
  have h3:=abz (cls:=aaa L) (fnd:=aaw E) X
  exact⟨elsOf_ok hok _,by unfold wEls;omega⟩
 ·simp
section
variable {L:List Mk}{F:Int→List Int}{E:List Ent}{s:Int}{sh back:Bool}{a b:ByteArray}{ps qs:List Nat}{ra rb:List UInt8}{X Y:List Int}
theorem wel_of {w:World}{p bd T:Nat}(h:TbAt w p bd T L F E)(hs:InI s)(ha:Spelt L F a ps ra X)(hX:X.length≤57*ps.length):WelF p bd T L F E s sh back a (esOf L E X (ad5 s sh a.size ra)) (ad5 s sh a.size ra):=by
 have hl:=ha.len
 have hq:=esOf_ok h.ok L (X:=X) (er:=ad5 s sh a.size ra) (fun h0=>by have:=(ac7 h0).1;omega)
 refine⟨elErr_of _ _ _ _,fun h0=>(ac7 h0).2,hq.1,hq.2,fun w hw ht W hW=> ?_⟩
 refine(welements_any (hw.below hW) (ht.own hW) s hs sh back a ps ra ha.split ha.pts ha.rest ha.form.form hX).mono ?_
 rintro e w' ⟨hb,⟨h0,v,h1,h2⟩ | h1⟩
 ·exact⟨hb,.inl ⟨h0,v,h1,by unfold esOf;rw[if_pos h0];exact h2⟩⟩
 ·exact⟨hb,.inr h1⟩
theorem pans_ok {w:World}{p bd T:Nat}(h:TbAt w p bd T L F E)(ht:Tabs w)(hs:InI s)(ha:Spelt L F a ps ra X)(hb:Spelt L F b qs rb Y)(hX:X.length≤57*ps.length)(hY:Y.length≤57*qs.length):
  PAns w (.pointer (some ⟨p,0,none⟩)) s sh back a b (okV L E s sh back a b ra rb X Y) where
 key_a _ hW:=key_g (wel_of h hs ha hX) (h.below hW) (ht.own hW)
 key_b _ hW:=key_g (wel_of h hs hb hY) (h.below hW) (ht.own hW)
 cmp _ hW:=cmp_g (wel_of h hs ha hX) (wel_of h hs hb hY) (h.below hW) (ht.own hW)
 same _ hW:=wsame_any (h.below hW) (ht.own hW) ha hb
theorem lvl_of {w:World}{v:Value}{l:List Ent}(h:Doc8 w v L F l)(hfn:aaw l=aaw E)(hel:af7 l=af7 E)(hs:InI s)(ha:Spelt L F a ps ra X)(hX:X.length≤57*ps.length)(hsz:a.size≤4294967296)(W:World)(hW:Below w.heap.size w W):
  Calls Tryz.prog 32 #[v,ag8 s sh back,.string a] W fun e w'=>LvPost s sh back (esOf L E X (ad5 s sh a.size ra)) (ad5 s sh a.size ra) W e w':=by
 have he:ad2 l (aax (aaa L) (aaw l) X)=wEls L E X:=by unfold wEls ad2;rw[hfn,hel]
 refine(rlevels_any (h.go hW) s hs sh back a hsz ps ra ha.split ha.pts ha.rest ha.form.form hX).mono ?_
 rw[he]
 rintro e w' ⟨hb,⟨h0,v,h1,h2⟩ | h1⟩
 ·exact⟨hb,.inl ⟨h0,v,h1,by unfold esOf;rw[if_pos h0];exact h2⟩⟩
 ·exact⟨hb,.inr h1⟩
theorem dans_ok {w:World}{da ta:Option Addr}{dn dc tn tc:Nat}{l:List Ent}(h:Doc8 w (.agg #[.bool true,.slice da dn dc,.slice ta tn tc]) L F l)(hok: ∀e∈E,EntOk e)(hfn:aaw l=aaw E)(hel:af7 l=af7 E)(hs:InI s)(ha:Spelt L F a ps ra X)(hb:Spelt L F b qs rb Y)(hX:X.length≤57*ps.length)(hY:Y.length≤57*qs.length)(hsa:a.size≤4294967296)(hsb:b.size≤4294967296):
  DAns w (.agg #[.bool true,.slice da dn dc,.slice ta tn tc]) s sh back a b (okV L E s sh back a b ra rb X Y):=by
 have la:=ha.len
 have lb:=hb.len
 have qa:=esOf_ok hok L (X:=X) (er:=ad5 s sh a.size ra) (fun h0=>by have:=(ac7 h0).1;omega)
 have qb:=esOf_ok hok L (X:=Y) (er:=ad5 s sh b.size rb) (fun h0=>by have:=(ac7 h0).1;omega)
 refine⟨fun W hW=> ?_,fun W hW=> ?_,fun W hW=> ?_,fun W hW=> ?_⟩
 ·refine(rkey_any qa.1 qa.2 (fun h0=>(ac7 h0).2) (fun W' hW'=>lvl_of h hfn hel hs ha hX hsa W' (hW.trans (hW'.mono hW.size)))).mono ?_
  rintro e w' ⟨hb,⟨h0,rfl⟩ | ⟨h0,rfl⟩⟩
  ·exact⟨by simp[okV,keyG,h0],hb⟩
  ·exact⟨by simp[okV,keyG,h0],hb⟩
 ·refine(rkey_any qb.1 qb.2 (fun h0=>(ac7 h0).2) (fun W' hW'=>lvl_of h hfn hel hs hb hY hsb W' (hW.trans (hW'.mono hW.size)))).mono ?_
  rintro e w' ⟨hb,⟨h0,rfl⟩ | ⟨h0,rfl⟩⟩
  ·exact⟨by simp[okV,keyG,h0],hb⟩
  ·exact⟨by simp[okV,keyG,h0],hb⟩
 ·refine(rcompare_any qa.2 qb.2 (fun h0=>(ac7 h0).2) (fun W' hW'=>lvl_of h hfn hel hs ha hX hsa W' (hW.trans (hW'.mono hW.size))) (fun W' hW'=>lvl_of h hfn hel hs hb hY hsb W' (hW.trans (hW'.mono hW.size)))).mono ?_
  rintro e w' ⟨hb,⟨h0,h1,rfl⟩ | ⟨h0,rfl⟩ | ⟨h0,h1,rfl⟩⟩
  ·exact⟨by simp[okV,cmpG,errG,h0,h1],hb⟩
  ·exact⟨by simp[okV,cmpG,errG,h0],hb⟩
  ·exact⟨by simp[okV,cmpG,errG,h0,h1],hb⟩
 ·exact rwsame_any (h.go hW) hsa hsb ha hb hX hY
end
def LightOk (m e:ByteArray)(w:World)(t:ByteArray):Prop:= ∀W,Below w.heap.size w W→Calls Tryz.prog 10 #[.agg #[.string m,.string e],.string t] W fun e w'=>AnyB e∧Below W.heap.size W w'
def DocOk (m e:ByteArray)(w:World)(s:Int)(sh back:Bool)(a b:ByteArray)(K:Vals)(why which line:Int):Prop:= ∀W,Below w.heap.size w W→Calls Tryz.prog 6 #[.string m,.string e] W fun r w'=> ∃th da dn dc ta tn tc,r=.returned (.tuple #[.agg #[.bool th,.slice da dn dc,.slice ta tn tc],.int .i64 why,.int .i64 which,.int .i64 line])∧DAns w' (.agg #[.bool th,.slice da dn dc,.slice ta tn tc]) s sh back a b K∧Below W.heap.size W w'
structure BothOk (m e:ByteArray)(w:World)(ptr:Value)(s:Int)(sh back:Bool)(a b:ByteArray)(why which line:Int):Prop where
 ans: ∃K,PAns w ptr s sh back a b K∧DocOk m e w s sh back a b K why which line
 la:LightOk m e w a
 lb:LightOk m e w b
theorem load8_at (m e:ByteArray)(hm:m.size≤1048576)(he:e.size≤1048576){L:List Mk}{F:Int→List Int}{E:List Ent}(hl:aeo m.data.toList e.data.toList=.ok ((L,F),E))(h57: ∀q,(aao F q).length≤57∧0<(aao F q).length)(W:World):
  Calls Tryz.prog 6 #[.string m,.string e] W fun r w'=> ∃da dn dc ta tn tc l,r=.returned (.tuple #[.agg #[.bool true,.slice da dn dc,.slice ta tn tc],.int .i64 0,.int .i64 0,.int .i64 0])∧Doc8 w' (.agg #[.bool true,.slice da dn dc,.slice ta tn tc]) L F l∧aaw l=aaw E∧af7 l=af7 E∧Below W.heap.size W w':=by
 refine(load8_any m e (by omega) (by omega) W).mono ?_
 rintro r w' ⟨hb,⟨why,which,line,h,_⟩ | ⟨L',F',E',l,da,dn,dc,ta,tn,tc,h,hR,hri,hpe,rfl,hD,hN⟩⟩
 ·rw[hl] at h;cases h
 ·rw[hl] at h
  cases h
  have hT:=(loadW_part hl).2
  obtain⟨q1,q2⟩:=fnd_perm hT hpe
  refine⟨da,dn,dc,ta,tn,tc,l,rfl,⟨⟨_,hR⟩,h57,fun x hx=>(loadT_ok hT).1 x (hpe.mem_iff.1 hx),da,dn,dc,_,rfl,hD,rt_of hT hri hpe hN.min⟩,q1,q2,hb⟩
set_option maxHeartbeats 1000000 in
theorem loads_any (m e:ByteArray)(hm:m.size≤1048576)(he:e.size≤1048576)(s:Int)(hs:InI s)(sh back:Bool)(a b:ByteArray)(ha:a.size≤1048576)(hb:b.size≤1048576)(w:World)(hg:Glob w)(htb:Tabs w):
  Calls Tryz.prog 5 #[.string m,.string e] w fun r w'=>Below w.heap.size w w'∧ ∃ptr why which line,r=.returned (.tuple #[ptr,.int .i64 why,.int .i64 which,.int .i64 line])∧(ptr=.pointer none∨ ∃g,ptr=.pointer (some ⟨g,0,none⟩))∧BothOk m e w' ptr s sh back a b why which line:=by
 refine(loadW_any m e (by omega) (by omega) w hg).mono ?_
 rintro r w1 ⟨hb1,⟨why,which,line,hl,rfl⟩ | ⟨L,F,E,tb,bd,T,hl,rfl,hT⟩⟩
 ·refine⟨hb1,_,why,which,line,rfl,.inl rfl,⟨nilV,pans_nil w1 s sh back a b,fun W hW=> ?_⟩,?_,?_⟩
  ·refine(load8_any m e (by omega) (by omega) W).mono ?_
   rintro r w' ⟨hb',⟨why',which',line',h,rfl⟩ | ⟨L',F',E',l,da,dn,dc,ta,tn,tc,h,_⟩⟩
   ·rw[hl] at h
    cases h
    exact⟨false,none,0,0,none,0,0,rfl,dans_nil w' s sh back a b,hb'⟩
   ·rw[hl] at h;cases h
  ·exact fun W _=>agr m e a (by omega) (by omega) (by omega) (fun _ _ _ h=>by rw[hl] at h;cases h) W
  ·exact fun W _=>agr m e b (by omega) (by omega) (by omega) (fun _ _ _ h=>by rw[hl] at h;cases h) W
 ·obtain⟨hR,hT2⟩:=loadW_part hl
  have h57:=fun q=>hT.data.plen q
  obtain⟨ps,ra,X,hA⟩:=spelt_any hR a
  obtain⟨qs,rb,Y,hB⟩:=spelt_any hR b
  have hX:=hA.xlen hT.data
  have hY:=hB.xlen hT.data
  have hlt: ∀L' F' E',aeo m.data.toList e.data.toList=.ok ((L',F'),E')→ ∀q,(aao F' q).length≤57:=fun L' F' E' h q=>by
   rw[hl] at h
   cases h
   exact(h57 q).1
  refine⟨hb1,_,0,0,0,rfl,.inr ⟨_,rfl⟩,⟨okV L E s sh back a b ra rb X Y,pans_ok hT (htb.own hb1) hs hA hB hX hY,fun W hW=> ?_⟩,?_,?_⟩
  ·refine(load8_at m e hm he hl h57 W).mono ?_
   rintro r w' ⟨da,dn,dc,ta,tn,tc,l,rfl,hD,q1,q2,hb'⟩
   exact⟨true,da,dn,dc,ta,tn,tc,rfl,dans_ok hD hT.ok q1 q2 hs hA hB hX hY (by omega) (by omega),hb'⟩
  ·exact fun W _=>agr m e a (by omega) (by omega) (by omega) hlt W
  ·exact fun W _=>agr m e b (by omega) (by omega) (by omega) hlt W
end Go.Proofs.YtpfkoldfbecdlaaGreatDoor
namespace Go.Proofs.YtpfkoldfbecdlaaGreatDoor
open Go.ChangeShapes Go.WideShapes Go.ChangeAt Go.RowKit Go.Vf Go.Maps Go.Joins
def caseA (s:Int)(sh back:Bool)(a b x:ByteArray):Value:=.agg #[.int .i64 s,.bool sh,.bool back,.string a,.string b,.string x]
theorem array6 {α:Type}{cs:Array α}(h:cs.size=6): ∃a b c d e f,cs= #[a,b,c,d,e,f]:=by
 obtain⟨l⟩:=cs
 match l,h with
 | [a,b,c,d,e,f],_=>exact⟨a,b,c,d,e,f,rfl⟩
set_option maxRecDepth 100000 in
theorem ttexts_open {H:Type}{enc:TypeId×Value→H}{base:Nat}{W:World}(v:Value)(d:DataW H)(pl:List MemPlace)(hok:Value.okWide Tryz.prog W .any base 42 v)(h:DataW.Trod enc Tryz.prog W 0 (fun _=>true) true 42 v d pl)(hbk:Rows.uptoBulk d≤1048576):
  ∃m e:ByteArray,v=.agg #[.string m,.string e]∧m.size≤1048576∧e.size≤1048576:=by
 obtain⟨v0,v1,y0,y1,n,rfl,hd,_,h0,h1⟩:=open_agg2 Tryz.underlying42 (by kernel_rfl) (by kernel_rfl) hok h
 obtain⟨m,e0,q0,_⟩:=DataW.trod_string Tryz.underlying9 h0
 obtain⟨e,e1,q1,_⟩:=DataW.trod_string Tryz.underlying9 h1
 simp at e0 e1
 subst e0 e1 hd q0 q1
 simp only[Rows.uptoBulk,Rows.uptoBulkAll] at hbk
 refine⟨m,e,rfl,?_,?_⟩
 ·rw[Lib.size_eq];omega
 ·rw[Lib.size_eq];omega
theorem wcells25:Tryz.prog.cellsOf 44=3:=by kernel_rfl
theorem wcells9:Tryz.prog.cellsOf 9=1:=by kernel_rfl
theorem wcells3:Tryz.prog.cellsOf 3=1:=by kernel_rfl
theorem wcells4:Tryz.prog.cellsOf 4=1:=by kernel_rfl
theorem wcells27:Tryz.prog.cellsOf 46=6:=by kernel_rfl
set_option maxRecDepth 100000 in
theorem case_open {H:Type}{enc:TypeId×Value→H}{base:Nat}{W:World}(v:Value)(d:DataW H)(pl:List MemPlace)(hok:Value.okWide Tryz.prog W .any base 46 v)(h:DataW.Trod enc Tryz.prog W 0 (fun _=>true) true 46 v d pl)(hbk:Rows.uptoBulk d≤1048576):
  ∃(s:Int) (sh back:Bool) (a b x:ByteArray),v=caseA s sh back a b x∧InI s∧a.size≤1048576∧b.size≤1048576∧x.size≤1048576:=by
 obtain⟨cs,rfl,hsz⟩:=okWide_struct Tryz.underlying46 hok
 obtain⟨c0,c1,c2,c3,c4,c5,rfl⟩:=array6 (hsz.trans wcells27)
 obtain⟨fuel,hf⟩:=h
 obtain⟨y0,y1,y2,y3,n,hx,_,h0,h1,h2,h3⟩:=trod_struct4 Tryz.underlying46 hf
 simp[Value.cells,wcells25,wcells9] at h0 h1 h2 h3
 obtain⟨a,e1,q1,_⟩:=DataW.trod_string Tryz.underlying9 h1
 obtain⟨b,e2,q2,_⟩:=DataW.trod_string Tryz.underlying9 h2
 obtain⟨x,e3,q3,_⟩:=DataW.trod_string Tryz.underlying9 h3
 obtain⟨xs,n',_,_,_,hlen,hf0⟩:=DataW.trod_struct Tryz.underlying44 h0
 obtain⟨z0,z1,z2,rfl⟩: ∃z0 z1 z2,xs=[z0,z1,z2]:=by
  match xs,hlen with
  | [z0,z1,z2],_=>exact⟨z0,z1,z2,rfl⟩
 have g0:=hf0 0 _ rfl
 have g1:=hf0 1 _ rfl
 have g2:=hf0 2 _ rfl
 simp[wcells3,wcells4] at g0 g1 g2
 obtain⟨s,i0,_,hwf⟩:=DataW.trod_int Tryz.underlying3 g0
 obtain⟨sh,i1,_⟩:=DataW.trod_bool Tryz.underlying4 g1
 obtain⟨back,i2,_⟩:=DataW.trod_bool Tryz.underlying4 g2
 simp at i0 i1 i2 e1 e2 e3
 simp only[Prod.mk.injEq] at hx
 have hd:=hx.1
 subst i0 i1 i2 e1 e2 e3 hd q1 q2 q3
 simp only[Rows.uptoBulk,Rows.uptoBulkAll] at hbk
 refine⟨s,sh,back,a,b,x,rfl,?_,?_,?_,?_⟩
 ·have:=bounds_i64 hwf
  unfold InI
  omega
 ·rw[Lib.size_eq];omega
 ·rw[Lib.size_eq];omega
 ·rw[Lib.size_eq];omega
end Go.Proofs.YtpfkoldfbecdlaaGreatDoor
