/- Contracts and lemmas (nothing is claimed here). -/
import Derived.Test.YtpfkoldfbecdlaaGreatDoorTRefU
import Derived.Test.YtpfkoldfbecdlaaGreatDoorJ37
import Derived.RegionTactic
import Derived.LaidMore
import Derived.Lay
import Derived.Lib.LaidTab
import Derived.Shelf.Vars
import Derived.Handed
import Derived.Stop.Joined
namespace Go.Proofs.YtpfkoldfbecdlaaGreatDoor
open Go.RowKit Go.Vf Go.Maps
theorem ay6 {m e:List UInt8}{L:List Mk}{F:Int→List Int}{E:List Ent}(h:aej m e=.ok ((L,F),E)):abb m=.ok (L,F)∧ac0 e=.ok E:=by
 unfold aej at h
 cases hm:abb m with
 | error q=>obtain⟨a,b⟩:=q;rw[hm] at h;cases h
 | ok d=>
  rw[hm] at h
  cases ht:ac0 e with
  | error q=>obtain⟨a,b⟩:=q;rw[ht] at h;cases h
  | ok E'=>rw[ht] at h;cases h;exact⟨rfl,rfl⟩
theorem a19 {m e:List UInt8}{why which line:Int}(h:aej m e=.error (why,which,line)):why≠0:=by
 unfold aej at h
 cases hm:abb m with
 | error q=>obtain⟨a,b⟩:=q;rw[hm] at h;cases h;exact aox hm
 | ok d=>
  rw[hm] at h
  cases ht:ac0 e with
  | error q=>obtain⟨a,b⟩:=q;rw[ht] at h;cases h;exact alg ht
  | ok E'=>rw[ht] at h;cases h
theorem aog {l:List Ent}(h:amc l):ajw l:=List.pairwise_map.1 h
theorem a6r {n₀:Nat}{w:World}{v:Value}{l:List Ent}(h:NIn n₀ w v l):EIn n₀ w v l:=by
 rcases h with h | ⟨b,off,cap,e,hlt,hc⟩
 ·exact .inl h
 ·refine .inr ⟨b,off,cap,e,hlt,fun j hj=> ?_⟩
  obtain⟨pv,ev,h1,h2,h3,h4⟩:=hc j hj
  obtain⟨pa,pc,rfl⟩:=ahg h2
  obtain⟨ea,ec,rfl⟩:=h4.val
  exact⟨pa,pc,ea,ec,h1,h3,h2,h4⟩
theorem ald {t:List UInt8}{L:List Mk}{E:Int→List Int}(h:abb t=.ok (L,E)):(aai L).length≤1048576∧ ∀m∈aai L,m.parts.length≤65536:=by
 obtain⟨hlen,hl,_⟩:=ag2 h
 obtain⟨hok,hnd,h4096,hsum,_⟩:=abk hlen hl
 have hperm:=ae3 hnd
 have hmay: ∀m∈aai L,adm m=true:=fun m hm=>by
  obtain⟨x,hx,rfl⟩:=List.mem_map.1 (hperm.subset hm)
  exact a7i (hok x hx)
 have hlens:aek (aai L)≤t.length+1:=by
  rw[anb hperm]
  have:=alh _ _ _ _ hl
  rw[apc] at this
  simpa[aek] using this
 refine⟨by rw[hperm.length_eq,List.length_map];omega,fun m hm=> ?_⟩
 have h1:(adb m).length+1≤aek (aai L):=by
  obtain⟨a,b,e⟩:=List.append_of_mem hm
  rw[e];simp[aek];omega
 obtain⟨u,c,us,e1,hu,hc,hus,e2⟩:=afy (hmay m hm)
 have h2:=auo us
 have h3:m.parts.length=us.length:=by rw[e1];simp
 have h7:(aav us).length≤(adb m).length:=by rw[e2];simp[aci];omega
 omega
theorem av9 {s:List UInt8}{E:List Ent}(h:ac0 s=.ok E):s.length≤65536:=by
 unfold ac0 at h
 split at h
 ·cases h
 ·omega
theorem ajo {s:List UInt8}{E l:List Ent}(h:ac0 s=.ok E)(hp:l.Perm E)(hr:ajw l):aez l=.ok (acx l)∧(acx l).length≤s.length∧l.length≤4096∧ ∀x∈l,x.1.length≤1048576∧x.2.length≤1048576:=by
 obtain⟨h1,h2,h3⟩:=aoy h
 have q: ∀x∈l,EntOk x:=fun x hx=>h1 x (hp.mem_iff.1 hx)
 have hs:=ar2 h hp
 have hl:l.length≤4096:=by rw[hp.length_eq];exact h3
 refine⟨ayd q hr hl (Nat.le_trans hs (av9 h)),hs,hl,fun x hx=>⟨?_,?_⟩⟩
 ·have:=(abf (q x hx).row).2;omega
 ·have:=(q x hx).n1;omega
theorem an8 {tmps:Array Value}{w:World}{a b:Value}(t2:tmps[2]?.getD undef=a)(t3:tmps[3]?.getD undef=b):(results Tryz.f8 tmps).run Tryz.prog w=.ok (.tuple #[a,b]) w:=by
 simp[results,Tryz.results8,go_sem,t2,t3]
theorem ahu {tmps:Array Value}{w:World}{a b:Value}(t2:tmps[2]?.getD undef=a)(t3:tmps[3]?.getD undef=b):(results Tryz.f9 tmps).run Tryz.prog w=.ok (.tuple #[a,b]) w:=by
 simp[results,Tryz.results9,go_sem,t2,t3]
def a01 (t1 t2:List UInt8)(w:World)(e:Ending)(w':World):Prop:=e=.returned (.tuple #[.string (bsz t1),.string (bsz t2)])∧Below w.heap.size w w'
set_option maxHeartbeats 4000000 in
set_option maxRecDepth 20000 in
theorem au7 {m e:List UInt8}{b bd T:Nat}{L:List Mk}{F:Int→List Int}{E l:List Ent}{w:World}(hl:aej m e=.ok ((L,F),E))(h:TbAt w b bd T L F E)(htb:Tb w w.heap.size){s:List UInt8}(hs:adh (aai L)=.ok s)(hp:l.Perm E)(hr:ajw l):
  Calls Tryz.prog 8 #[.pointer (some ⟨b,0,none⟩)] w fun e w'=>a01 s (acx l) w e w':=by
 obtain⟨hR,hT⟩:=ay6 hl
 obtain⟨q1,q2⟩:=ald hR
 obtain⟨p1,_,p3,p4⟩:=ajo hT hp hr
 have c0:w.cell? ⟨b,0,none⟩=some (.pointer (some ⟨bd,0,none⟩)):=h.blk.cell 0
 have c1:w.cell? ⟨b,1,none⟩=some (.pointer (some ⟨T,0,none⟩)):=h.blk.cell 1
 have hbl:=h.blk.lt
 go_enter Tryz.func8,Tryz.ntmps8
 go_wp2_with fail
 refine(ayy bd L F w h.data).mono ?_
 rintro e1 w1 ⟨a,k,cap,ps,rfl,hown,hps,hb1⟩
 have hin:MIn w1.heap.size w1 (.slice a k cap) (aai L):=hps▸hown.min
 have htb1:Tb w1 w1.heap.size:=(htb.below hb1).up hb1.size
 have hpr:=ayc (aai L) (by omega) (fun x hx=>by have:=q2 x hx;omega) (.slice a k cap) w1.heap.size w1 (Nat.le_refl _) hin htb1
 rw[hs] at hpr
 clear hown hps hin c0
 go_wp2_with fail
 refine hpr.mono ?_
 rintro e2 w2 ⟨rfl,hb2⟩
 have hb02:=hb1.trans (hb2.mono hb1.size)
 have d1:=(hb02.cell (p:=⟨b,1,none⟩) hbl).trans c1
 obtain⟨me,ml,val,ht⟩:=(h.below hb02).tab
 have hen:=ath T me ml val E w2 ht (aoy hT).2.2 (aoy hT).2.1
 have htb2:Tb w2 w2.heap.size:=(htb1.below hb2).up hb2.size
 clear hpr c1
 simp only[ahw]
 go_wp2_with fail
 refine hen.mono ?_
 clear hen d1
 rintro e3 w3 ⟨v,vs,es,rfl,hes,hre,hpe,hb3⟩
 obtain rfl:es=l:=a1l (hpe.trans hp.symm) hre hr
 have htb3:Tb w3 w3.heap.size:=(htb2.below hb3).up hb3.size
 have hpt:=avu es (by omega) (fun x hx=>by have:=p4 x hx;omega) v w3.heap.size w3 (Nat.le_refl _) hes.inn htb3.h6 htb3.tz
 rw[p1] at hpt
 obtain⟨va,vc,rfl⟩:=hes.inn.val
 have hb03:=hb02.trans (hb3.mono hb02.size)
 clear hes ht
 go_wp2_with fail
 refine hpt.mono ?_
 rintro e4 w4 ⟨rfl,hb4⟩
 simp only[ahw]
 go_wp2_with fail
 refine bodyPost_ret (an8 rfl rfl) rfl ?_
 exact⟨rfl,hb03.trans (hb4.mono hb03.size)⟩
set_option maxHeartbeats 4000000 in
set_option maxRecDepth 20000 in
theorem avo {m e:List UInt8}{da ta:Option Addr}{dn dc tn tc:Nat}{L:List Mk}{F:Int→List Int}{E l:List Ent}{w:World}(hl:aej m e=.ok ((L,F),E))(hD:MIn w.heap.size w (.slice da dn dc) (aai L))(hN:NIn w.heap.size w (.slice ta tn tc) l){s:List UInt8}(hs:adh (aai L)=.ok s)(hp:l.Perm E)(hr:ajw l):
  Calls Tryz.prog 9 #[.agg #[.bool true,.slice da dn dc,.slice ta tn tc]] w fun e w'=>a01 s (acx l) w e w':=by
 obtain⟨hR,hT⟩:=ay6 hl
 obtain⟨q1,q2⟩:=ald hR
 obtain⟨p1,_,p3,p4⟩:=ajo hT hp hr
 have hb0:=(Below.refl w.heap.size w).alloc (Nat.le_refl _) (.cells #[.bool true,.slice da dn dc,.slice ta tn tc] 33)
 have hB:=Blk.new w 33 #[.bool true,.slice da dn dc,.slice ta tn tc]
 have hD0:=hD.go hb0
 have hN0:=(hN.below hb0 (Nat.le_refl _)).mono hb0.size
 go_enter Tryz.func9,Tryz.ntmps9
 go_upto_region 1 with fail
 generalize w.alloc (.cells #[.bool true,.slice da dn dc,.slice ta tn tc] 33)=W at*
 have c0:W.cell? ⟨w.heap.size,0,none⟩=some (.bool true):=hB.cell 0
 have c1:W.cell? ⟨w.heap.size,1,none⟩=some (.slice da dn dc):=hB.cell 1
 have hpr:=ap4 (aai L) (by omega) (fun x hx=>by have:=q2 x hx;omega) (.slice da dn dc) W.heap.size W (Nat.le_refl _) hD0
 rw[hs] at hpr
 go_wp2_with fail
 refine hpr.mono ?_
 rintro e1 w1 ⟨rfl,hb1⟩
 have d2:w1.cell? ⟨w.heap.size,2,none⟩=some (.slice ta tn tc):=(hb1.cell (p:=⟨w.heap.size,2,none⟩) hB.lt).trans (hB.cell 2)
 have hpt:=avp l (by omega) (fun x hx=>by have:=p4 x hx;omega) (.slice ta tn tc) w1.heap.size w1 (Nat.le_refl _) (a6r ((hN0.below hb1 (Nat.le_refl _)).mono hb1.size))
 rw[p1] at hpt
 have hb01:=hb0.trans (hb1.mono hb0.size)
 clear hpr c0 c1
 simp only[ahw]
 go_wp2_with fail
 refine hpt.mono ?_
 rintro e2 w2 ⟨rfl,hb2⟩
 simp only[ahw]
 go_wp2_with fail
 refine bodyPost_ret (ahu rfl rfl) rfl ?_
 exact⟨rfl,hb01.trans (hb2.mono hb01.size)⟩
set_option maxHeartbeats 1000000 in
theorem avn (da ta:Option Addr)(dn dc tn tc:Nat)(w:World):Calls Tryz.prog 9 #[.agg #[.bool false,.slice da dn dc,.slice ta tn tc]] w fun e w'=>a01 [] [] w e w':=by
 have hb0:=(Below.refl w.heap.size w).alloc (Nat.le_refl _) (.cells #[.bool false,.slice da dn dc,.slice ta tn tc] 33)
 have hB:=Blk.new w 33 #[.bool false,.slice da dn dc,.slice ta tn tc]
 go_enter Tryz.func9,Tryz.ntmps9
 go_upto_region 1 with fail
 generalize w.alloc (.cells #[.bool false,.slice da dn dc,.slice ta tn tc] 33)=W at*
 have c0:W.cell? ⟨w.heap.size,0,none⟩=some (.bool false):=hB.cell 0
 go_wp2_with fail
 refine bodyPost_ret (ahu rfl rfl) rfl ?_
 exact⟨rfl,hb0⟩
set_option maxHeartbeats 8000000 in
set_option maxRecDepth 20000 in
theorem au9 (m e:ByteArray)(hm:m.size≤281474976710656)(he:e.size≤281474976710656)(w:World)(hg:Glob w)(ht:Tabs w)(htb:Tb w w.heap.size):
  Calls Tryz.prog 3 #[.string m,.string e] w fun e w'=>e=.returned (.bool true)∧Below w.heap.size w w':=by
 have HG:Aside (Glob w):=hg
 have HT:Aside (Tabs w):=ht
 have HTB:Aside (Tb w w.heap.size):=htb
 clear hg ht htb
 go_enter Tryz.func3,Tryz.ntmps3
 go_wp2_with fail
 refine(aqm m e hm he w HG.out).mono ?_
 rintro r w1 ⟨hb1,⟨why,which,line,hl,rfl⟩ | ⟨L,F,E,tb,bd,T,hl,rfl,hT1⟩⟩
 ·have hy0:=a19 hl
  have hy2:(why !=0)=true:=by simpa using hy0
  go_wp2_with fail
  refine(aqn m e hm he w1).mono ?_
  rintro r w2 ⟨hb2,⟨why',which',line',hl',rfl⟩ | ⟨L',F',E',l,da,dn,dc,ta,tn,tc,hl',_⟩⟩
  case inr=>rw[hl] at hl';cases hl'
  rw[hl] at hl'
  cases hl'
  have hb02:=hb1.trans (hb2.mono hb1.size)
  have hb3':=(Below.refl w2.heap.size w2).alloc (Nat.le_refl _) (.cells #[.bool false,.slice none 0 0,.slice none 0 0] 33)
  have hX:=Blk.new w2 33 #[.bool false,.slice none 0 0,.slice none 0 0]
  have hb03:=hb02.alloc hb02.size (.cells #[.bool false,.slice none 0 0,.slice none 0 0] 33)
  go_upto_region 3 with fail
  generalize w2.alloc (.cells #[.bool false,.slice none 0 0,.slice none 0 0] 33)=w3 at hb3' hX hb03⊢
  generalize w2.heap.size=XB at hX⊢
  have haw:=ark w3 (HG.out.below hb03) (HT.out.own hb03)
  clear hl hy0 hb3'
  go_wp2_with fail
  refine haw.mono ?_
  clear haw
  rintro _ w4 ⟨rfl,hb4⟩
  have hb04:=hb03.trans (hb4.mono hb03.size)
  have hX4:=hX.below hb4 hX.lt
  go_wp2_with fail
  refine(axr w4).mono ?_
  rintro _ w5 ⟨rfl,rfl⟩
  have x0:w4.cell? ⟨XB,0,none⟩=some (.bool false):=hX4.cell 0
  have x1:w4.cell? ⟨XB,1,none⟩=some (.slice none 0 0):=hX4.cell 1
  have x2:w4.cell? ⟨XB,2,none⟩=some (.slice none 0 0):=hX4.cell 2
  go_wp2_with fail
  refine(avn none none 0 0 0 0 w4).mono ?_
  clear x0 x1 x2
  rintro _ w5 ⟨rfl,hb5⟩
  have hb05:=hb04.trans (hb5.mono hb04.size)
  go_wp2_with fail
  go_ret
  exact⟨by first | rfl | simp[bsz],hb05⟩
 ·obtain⟨hR,hTe⟩:=ay6 hl
  obtain⟨s,_,hs,hsl,_⟩:=a0y hR
  go_wp2_with fail
  refine(aqn m e hm he w1).mono ?_
  rintro r w2 ⟨hb2,⟨why',which',line',hl',_⟩ | ⟨L',F',E',l,da,dn,dc,ta,tn,tc,hl',hR',hri,hpe,rfl,hD,hN⟩⟩
  case inl=>rw[hl] at hl';cases hl'
  rw[hl] at hl'
  cases hl'
  obtain⟨_,htl,_,_⟩:=ajo hTe hpe (aog hri)
  have hb02:=hb1.trans (hb2.mono hb1.size)
  have hb3':=(Below.refl w2.heap.size w2).alloc (Nat.le_refl _) (.cells #[.bool true,.slice da dn dc,.slice ta tn tc] 33)
  have hX:=Blk.new w2 33 #[.bool true,.slice da dn dc,.slice ta tn tc]
  have hb03:=hb02.alloc hb02.size (.cells #[.bool true,.slice da dn dc,.slice ta tn tc] 33)
  have hD3:=hD.go hb3'
  have hN3:=(hN.min.below hb3' (Nat.le_refl _)).mono hb3'.size
  have hb13:=hb2.trans (hb3'.mono hb2.size)
  have hT3:=hT1.below hb13
  go_upto_region 3 with fail
  generalize w2.alloc (.cells #[.bool true,.slice da dn dc,.slice ta tn tc] 33)=w3 at hX hb03 hD3 hN3 hT3⊢
  generalize w2.heap.size=XB at hX⊢
  have haw:=ark w3 (HG.out.below hb03) (HT.out.own hb03)
  clear hD hN hT1 hb3' hb13 hb1 hb2
  go_wp2_with fail
  refine haw.mono ?_
  clear haw
  rintro _ w4 ⟨rfl,hb4⟩
  have hb04:=hb03.trans (hb4.mono hb03.size)
  have hX4:=hX.below hb4 hX.lt
  have hD4:=hD3.go hb4
  have hN4:=(hN3.below hb4 (Nat.le_refl _)).mono hb4.size
  have htx:=au7 hl (hT3.below hb4) ((HTB.out.below hb04).up hb04.size) hs hpe (aog hri)
  clear hX hD3 hN3 hT3
  go_wp2_with fail
  refine htx.mono ?_
  clear htx
  rintro _ w5 ⟨rfl,hb5⟩
  have hb05:=hb04.trans (hb5.mono hb04.size)
  have hX5:=hX4.below hb5 hX4.lt
  have hrt:=avo hl (hD4.go hb5) ((hN4.below hb5 (Nat.le_refl _)).mono hb5.size) hs hpe (aog hri)
  have x0:w5.cell? ⟨XB,0,none⟩=some (.bool true):=hX5.cell 0
  have x1:w5.cell? ⟨XB,1,none⟩=some (.slice da dn dc):=hX5.cell 1
  have x2:w5.cell? ⟨XB,2,none⟩=some (.slice ta tn tc):=hX5.cell 2
  clear hD4 hN4 hX4 hX5
  go_wp2_with fail
  refine hrt.mono ?_
  clear hrt x0 x1 x2
  rintro _ w6 ⟨rfl,hb6⟩
  have hb06:=hb05.trans (hb6.mono hb05.size)
  have z1:(bsz s).size≤m.size:=by rw[aa8,Lib.size_eq m];exact hsl
  have z2:(bsz (acx l)).size≤e.size:=by rw[aa8,Lib.size_eq e];exact htl
  clear hl hR hTe hs hsl htl hri hpe
  generalize bsz s=sa at z1⊢
  generalize bsz (acx l)=sb at z2⊢
  have z3:decide (sa.size≤m.size)=true:=decide_eq_true z1
  have z4:decide (sb.size≤e.size)=true:=decide_eq_true z2
  go_wp2_with fail
  go_ret
  exact⟨by first | rfl | simp[z3,z4],hb06⟩
end Go.Proofs.YtpfkoldfbecdlaaGreatDoor
namespace Go.Proofs.YtpfkoldfbecdlaaGreatDoor
open Go.RowKit Go.Vf
def a67:List (String×DataW Unit):=[("unicode/utf8.acceptRanges",Rows.laid_unicode_utf8_acceptRanges),("dovetail/utf.rows",Rows.laid_dovetail_utf_rows),("dovetail/utf.heads",Rows.laid_dovetail_utf_heads),("unicode/utf8.first",Rows.laid_unicode_utf8_first)]
def ao1:List (String×DataW Unit):=[("math/bits.deBruijn32tab",Rows.laid_math_bits_deBruijn32tab),("math/bits.deBruijn64tab",Rows.laid_math_bits_deBruijn64tab),("internal/strconv.uint64pow10",Rows.laid_internal_strconv_uint64pow10),("unicode/utf8.acceptRanges",Rows.laid_unicode_utf8_acceptRanges),("dovetail/utf.rows",Rows.laid_dovetail_utf_rows),("dovetail/utf.heads",Rows.laid_dovetail_utf_heads),("unicode.CaseRanges",Rows.laid_unicode_CaseRanges),("unicode/utf8.first",Rows.laid_unicode_utf8_first)]
theorem gRows:Tryz.prog.globalNamed "dovetail/utf.rows" =some 0:=by kernel_rfl
theorem gHeads:Tryz.prog.globalNamed "dovetail/utf.heads" =some 1:=by kernel_rfl
theorem tRows:(Tryz.prog.globals[0]?).map (·.type)=some 243:=by kernel_rfl
theorem tHeads:(Tryz.prog.globals[1]?).map (·.type)=some 244:=by kernel_rfl
theorem a0r:Tryz.prog.cellsOf 214=7:=by kernel_rfl
theorem anx:Tryz.prog.cellsOf 5=1:=by kernel_rfl
theorem atr:Tryz.prog.cellsOf 3=1:=by kernel_rfl
def a4q {H:Type}(k:Nat):DataW H:=.agg [.lit (.int .u8 ((aan k).first:Int)),.lit (.int .u8 ((aan k).last:Int)),.lit (.int .u8 ((aan k).low:Int)),.lit (.int .u8 ((aan k).high:Int)),.lit (.int .i64 ((aan k).size:Int)),.lit (.int .i64 ((aan k).least:Int)),.lit (.int .i64 ((aan k).most:Int))]
theorem apy {H:Type}:(Rows.laid_dovetail_utf_rows:DataW H)=.agg ((List.range 9).map a4q):=rfl
theorem anf {H:Type}:(Rows.laid_dovetail_utf_heads:DataW H)=.agg ((List.range 5).map fun k=>.lit (.int .u8 (adr k:Int))):=rfl
theorem adk {l:List Value}{k:Nat}{v:Value}(h:(l.drop k).take 1=[v]):l[k]? =some v:=by
 have h1:=congrArg (fun x:List Value=>x[0]?) h
 simpa using h1
def aph (cs:List Value)(k:Nat):Prop:=
 cs[0]? =some (.int .u8 ((aan k).first:Int))∧cs[1]? =some (.int .u8 ((aan k).last:Int))∧cs[2]? =some (.int .u8 ((aan k).low:Int))∧cs[3]? =some (.int .u8 ((aan k).high:Int))∧cs[4]? =some (.int .i64 ((aan k).size:Int))∧cs[5]? =some (.int .i64 ((aan k).least:Int))∧cs[6]? =some (.int .i64 ((aan k).most:Int))
section
variable {H:Type}{enc:TypeId×Value→H}{w:World}{base fuel:Nat}{spare:Nat→Bool}{held:Bool}{cs:List Value}{x:DataW H×List MemPlace}
theorem ael {t:TypeId}{k:IntKind}{n:Int}(ht:Tryz.prog.underlying t=some (.int k))(h:DataW.trod enc Tryz.prog w base spare held fuel t cs=some x)(hx:x.1=.lit (.int k n)):cs=[.int k n]:=by
 obtain⟨m,e1,e2,_⟩:=DataW.trod_int ht h
 rw[e2] at hx
 simp at hx
 rw[e1,hx]
theorem ap0 {k:Nat}(h:DataW.trod enc Tryz.prog w base spare held fuel 214 cs=some x)(hx:x.1=a4q k):
  aph cs k:=by
 obtain⟨xs,n,_,e,hl,hlen,hf⟩:=DataW.trod_struct Tryz.underlying214 h
 rw[e] at hx
 unfold a4q at hx
 simp only[DataW.agg.injEq] at hx
 match xs,hx with
 | [y0,y1,y2,y3,y4,y5,y6],hx=>
  simp only[List.map_cons,List.map_nil,List.cons.injEq,and_true] at hx
  obtain⟨g0,g1,g2,g3,g4,g5,g6⟩:=hx
  have q0:DataW.trod enc Tryz.prog w base spare held n 5 ((cs.drop 0).take (Tryz.prog.cellsOf 5))=some y0:=hf 0 _ rfl
  rw[anx] at q0
  have q1:DataW.trod enc Tryz.prog w base spare held n 5 ((cs.drop 1).take (Tryz.prog.cellsOf 5))=some y1:=hf 1 _ rfl
  rw[anx] at q1
  have q2:DataW.trod enc Tryz.prog w base spare held n 5 ((cs.drop 2).take (Tryz.prog.cellsOf 5))=some y2:=hf 2 _ rfl
  rw[anx] at q2
  have q3:DataW.trod enc Tryz.prog w base spare held n 5 ((cs.drop 3).take (Tryz.prog.cellsOf 5))=some y3:=hf 3 _ rfl
  rw[anx] at q3
  have q4:DataW.trod enc Tryz.prog w base spare held n 3 ((cs.drop 4).take (Tryz.prog.cellsOf 3))=some y4:=hf 4 _ rfl
  rw[atr] at q4
  have q5:DataW.trod enc Tryz.prog w base spare held n 3 ((cs.drop 5).take (Tryz.prog.cellsOf 3))=some y5:=hf 5 _ rfl
  rw[atr] at q5
  have q6:DataW.trod enc Tryz.prog w base spare held n 3 ((cs.drop 6).take (Tryz.prog.cellsOf 3))=some y6:=hf 6 _ rfl
  rw[atr] at q6
  exact⟨adk (ael Tryz.underlying5 q0 g0),adk (ael Tryz.underlying5 q1 g1),adk (ael Tryz.underlying5 q2 g2),adk (ael Tryz.underlying5 q3 g3),adk (ael Tryz.underlying3 q4 g4),adk (ael Tryz.underlying3 q5 g5),adk (ael Tryz.underlying3 q6 g6)⟩
end
theorem a1a {W:World}(h:laidMetH Tryz.prog a67 W):Tabs W:=by
 rw[MakeChecks.laidMetH_plain _ _ _ (by kernel_rfl)] at h
 obtain⟨ps,⟨_,_,_,_,_,_,_,_,_,_,⟨g0,t0,cs0,f0,p0,q0,hg0,ht0,hv0,hd0,⟨g1,t1,cs1,f1,p1,q1,hg1,ht1,hv1,hd1,_,_⟩,_⟩,_⟩,_,_⟩:=h
 obtain rfl:=Option.some.inj (gRows.symm.trans hg0)
 obtain rfl:=Option.some.inj (gHeads.symm.trans hg1)
 obtain rfl:=Option.some.inj (tRows.symm.trans ht0)
 obtain rfl:=Option.some.inj (tHeads.symm.trans ht1)
 have c0:=World.var?_cell hg0 hv0
 have c1:=World.var?_cell hg1 hv1
 obtain⟨xs,m,_,e,hl,hn,hel⟩:=DataW.trod_array Tryz.underlying243 hd0
 obtain⟨ys,m1,_,e1,hl1,hn1,hel1⟩:=DataW.trod_array Tryz.underlying244 hd1
 have hrow: ∀k,k<9→ ∃y:DataW Unit×List MemPlace,xs[k]? =some y∧y.1=a4q k:=fun k hk=>by
  have e2:xs.map (·.1)=(List.range 9).map a4q:=by
   have:=congrArg Prod.fst e
   rw[apy] at this
   exact(DataW.agg.inj this).symm
  have e3:=congrArg (fun l:List (DataW Unit)=>l[k]?) e2
  simp only[List.getElem?_map,List.getElem?_range hk,Option.map_some] at e3
  obtain⟨y,h1,h2⟩:=Option.map_eq_some_iff.1 e3
  exact⟨y,h1,h2⟩
 have hhead: ∀k,k<5→ ∃y:DataW Unit×List MemPlace,ys[k]? =some y∧y.1=.lit (.int .u8 (adr k:Int)):=fun k hk=>by
  have e2:ys.map (·.1)=(List.range 5).map fun k=>.lit (.int .u8 (adr k:Int)):=by
   have:=congrArg Prod.fst e1
   rw[anf] at this
   exact(DataW.agg.inj this).symm
  have e3:=congrArg (fun l:List (DataW Unit)=>l[k]?) e2
  simp only[List.getElem?_map,List.getElem?_range hk,Option.map_some] at e3
  obtain⟨y,h1,h2⟩:=Option.map_eq_some_iff.1 e3
  exact⟨y,h1,h2⟩
 have key: ∀k,k<9→ ∀j v,((cs0.toList.drop (k*7)).take 7)[j]? =some v→W.cell? ⟨0,k*7+j,none⟩=some v:=fun k hk j v hv=>by
  rw[c0]
  simp only[List.getElem?_take,List.getElem?_drop] at hv
  simp at hv
  simpa using hv.2
 have rows: ∀k,k<9→aph ((cs0.toList.drop (k*7)).take 7) k:=fun k hk=>by
  obtain⟨y,h1,h2⟩:=hrow k hk
  have h3:=hel k hk
  rw[h1,a0r] at h3
  exact ap0 h3 h2
 refine⟨?_,fun k hk=>key k hk 0 _ (rows k hk).1,fun k hk=>key k hk 1 _ (rows k hk).2.1,fun k hk=>key k hk 2 _ (rows k hk).2.2.1,fun k hk=>key k hk 3 _ (rows k hk).2.2.2.1,fun k hk=>key k hk 4 _ (rows k hk).2.2.2.2.1,fun k hk=>key k hk 5 _ (rows k hk).2.2.2.2.2.1,fun k hk=>key k hk 6 _ (rows k hk).2.2.2.2.2.2,fun k hk=> ?_⟩
 ·simp only[World.var?,hg1,Option.bind_some] at hv1
  split at hv1
  ·rename_i h;have:=(Array.getElem?_eq_some_iff.1 h).1;omega
  ·cases hv1
 ·obtain⟨y,h1,h2⟩:=hhead k hk
  have h3:=hel1 k hk
  rw[h1,anx,Nat.mul_one] at h3
  have:=adk (ael Tryz.underlying5 h3 h2)
  rw[c1]
  simpa using this
theorem aoa {W:World}(h:laidMetH Tryz.prog ao1 W):Tabs W:=by
 rw[MakeChecks.laidMetH_plain _ _ _ (by kernel_rfl)] at h
 obtain⟨ps,⟨_,_,_,_,_,_,_,_,_,_,⟨_,_,_,_,_,_,_,_,_,_,⟨_,_,_,_,_,_,_,_,_,_,⟨_,_,_,_,_,_,_,_,_,_,⟨g0,t0,cs0,f0,p0,q0,hg0,ht0,hv0,hd0,⟨g1,t1,cs1,f1,p1,q1,hg1,ht1,hv1,hd1,_,_⟩,_⟩,_⟩,_⟩,_⟩,_⟩,_,_⟩:=h
 obtain rfl:=Option.some.inj (gRows.symm.trans hg0)
 obtain rfl:=Option.some.inj (gHeads.symm.trans hg1)
 obtain rfl:=Option.some.inj (tRows.symm.trans ht0)
 obtain rfl:=Option.some.inj (tHeads.symm.trans ht1)
 have c0:=World.var?_cell hg0 hv0
 have c1:=World.var?_cell hg1 hv1
 obtain⟨xs,m,_,e,hl,hn,hel⟩:=DataW.trod_array Tryz.underlying243 hd0
 obtain⟨ys,m1,_,e1,hl1,hn1,hel1⟩:=DataW.trod_array Tryz.underlying244 hd1
 have hrow: ∀k,k<9→ ∃y:DataW Unit×List MemPlace,xs[k]? =some y∧y.1=a4q k:=fun k hk=>by
  have e2:xs.map (·.1)=(List.range 9).map a4q:=by
   have:=congrArg Prod.fst e
   rw[apy] at this
   exact(DataW.agg.inj this).symm
  have e3:=congrArg (fun l:List (DataW Unit)=>l[k]?) e2
  simp only[List.getElem?_map,List.getElem?_range hk,Option.map_some] at e3
  obtain⟨y,h1,h2⟩:=Option.map_eq_some_iff.1 e3
  exact⟨y,h1,h2⟩
 have hhead: ∀k,k<5→ ∃y:DataW Unit×List MemPlace,ys[k]? =some y∧y.1=.lit (.int .u8 (adr k:Int)):=fun k hk=>by
  have e2:ys.map (·.1)=(List.range 5).map fun k=>.lit (.int .u8 (adr k:Int)):=by
   have:=congrArg Prod.fst e1
   rw[anf] at this
   exact(DataW.agg.inj this).symm
  have e3:=congrArg (fun l:List (DataW Unit)=>l[k]?) e2
  simp only[List.getElem?_map,List.getElem?_range hk,Option.map_some] at e3
  obtain⟨y,h1,h2⟩:=Option.map_eq_some_iff.1 e3
  exact⟨y,h1,h2⟩
 have key: ∀k,k<9→ ∀j v,((cs0.toList.drop (k*7)).take 7)[j]? =some v→W.cell? ⟨0,k*7+j,none⟩=some v:=fun k hk j v hv=>by
  rw[c0]
  simp only[List.getElem?_take,List.getElem?_drop] at hv
  simp at hv
  simpa using hv.2
 have rows: ∀k,k<9→aph ((cs0.toList.drop (k*7)).take 7) k:=fun k hk=>by
  obtain⟨y,h1,h2⟩:=hrow k hk
  have h3:=hel k hk
  rw[h1,a0r] at h3
  exact ap0 h3 h2
 refine⟨?_,fun k hk=>key k hk 0 _ (rows k hk).1,fun k hk=>key k hk 1 _ (rows k hk).2.1,fun k hk=>key k hk 2 _ (rows k hk).2.2.1,fun k hk=>key k hk 3 _ (rows k hk).2.2.2.1,fun k hk=>key k hk 4 _ (rows k hk).2.2.2.2.1,fun k hk=>key k hk 5 _ (rows k hk).2.2.2.2.2.1,fun k hk=>key k hk 6 _ (rows k hk).2.2.2.2.2.2,fun k hk=> ?_⟩
 ·simp only[World.var?,hg1,Option.bind_some] at hv1
  split at hv1
  ·rename_i h;have:=(Array.getElem?_eq_some_iff.1 h).1;omega
  ·cases hv1
 ·obtain⟨y,h1,h2⟩:=hhead k hk
  have h3:=hel1 k hk
  rw[h1,anx,Nat.mul_one] at h3
  have:=adk (ael Tryz.underlying5 h3 h2)
  rw[c1]
  simpa using this
theorem ao5 {W:World}(hs:W.ShapedOpen Tryz.prog):Glob W:=
 cell_of_shapedOpen_int (P:=Tryz.prog) (g:=2) (t:=3) (zero:= #[.int .i64 0]) hs (of_decide_eq_true (by kernel_rfl)) (by kernel_rfl) rfl (by kernel_rfl) (by kernel_rfl) Tryz.underlying3
section
variable {H:Type}{enc:TypeId×Value→H}
theorem ahp {C:Checked}{os:Os}{f:FuncId}{fn:Func}{s:ChangeSpec}{X:World→Array Value→Prop}
  (hX: ∀(w w':World) (args:Array Value),w.heap=w'.heap→X w args→X w' args)
  (own:ownKnob C.prog.godebug=none) (started:os.Started) (noInit:C.prog.inits.idxOf? f=none) (hfn:C.prog.funcs[f]? =some fn)
  (witness: ∃(w:World) (tape:Tape) (i:Input),w.os=os∧(w.forCall tape i).Shaped C.prog∧i.vars=[]∧Input.okWide C.prog (w.forCall tape i) .any w.heap.size f i∧
   ((s.pre enc C.prog fn [] false (w.forCall tape i).memory i.args∧X (w.forCall tape i).memory i.args)∧sizedMet enc C.prog fn (OpenSpec.ofChange s) false (w.forCall tape i).memory i.args)∧({}:Assume).holds C.prog (lone (Frame.enter C.prog f i.args .normal) [] (w.forCall tape i)))
  (contract: ∀(W:World) (base:Nat) (args:Array Value) (ds gs:List (DataW H)) (before:List MemPlace),
   (∀(j:Nat) t v,fn.params[j]? =some t→args[j]? =some v→Value.okWide C.prog W .any base t v)→
   DataW.Whole enc C.prog fn.params.toList s.vars false W args.toList ds gs before→
   (DataW.weightsEach C.prog (fn.params.toList++s.plain.varTypes C.prog) (ds++gs)).all (· ≤reachBytes)=true→X W args→W.ShapedOpen C.prog→
   Calls C.prog f args W fun e W'=> ∃v,e=.returned v∧s.post enc C.prog fn false true false false W args v W'):
  ReturnsInHanded {} C os f .any (fun w args=>(s.pre enc C.prog fn [] false w args∧X w args)∧sizedMet enc C.prog fn (OpenSpec.ofChange s) false w args) (s.post enc C.prog fn false true false false):=by
 refine returnsInHanded_of_calls own started noInit witness fun w tape i _ hsh _ hok hpre _=> ?_
 obtain⟨_,_,_,fn',hfn',_,_,_,_,hval⟩:=hok
 obtain rfl:fn'=fn:=Option.some.inj (hfn'.symm.trans hfn)
 obtain⟨⟨⟨ds,gs,before,hw,_⟩,hx⟩,hz⟩:=hpre
 refine(contract (w.forCall tape i) w.heap.size i.args ds gs before hval (DataW.Whole.of_heap (w':=w.forCall tape i) (by rfl) hw) (hz.weights hw) (hX _ _ _ (by rfl) hx) hsh).mono fun e W' ⟨v,he,hp⟩=> ?_
 subst he
 exact ChangeSpec.post_blind hp
end
theorem azb (os:Os)(args:Array Value):laidMetH Tryz.prog ao1 ((World.laidAll Tryz.prog os ao1).forCall (fun _ _=>0) ⟨#[],args,[]⟩).memory:=by
 rw[MakeChecks.laidMetH_plain _ _ _ (by kernel_rfl)]
 exact laidMet_laidAll _ (by kernel_rfl) (by kernel_rfl)
theorem aqq (os:Os)(args:Array Value):((World.laidAll Tryz.prog os ao1).forCall (fun _ _=>0) ⟨#[],args,[]⟩).Shaped Tryz.prog:=World.shaped_of_ZipB (by kernel_rfl) (by kernel_rfl)
theorem gB64:Tryz.prog.globalNamed "math/bits.deBruijn64tab" =some 8:=by kernel_rfl
theorem gPow:Tryz.prog.globalNamed "internal/strconv.uint64pow10" =some 6:=by kernel_rfl
theorem tB64:(Tryz.prog.globals[8]?).map (·.type)=some 333:=by kernel_rfl
theorem tPow:(Tryz.prog.globals[6]?).map (·.type)=some 323:=by kernel_rfl
def b64Tab:List Int:=(match (Rows.laid_math_bits_deBruijn64tab:DataW Unit) with
 | .agg xs=>xs.map fun x=>match x with
  | .lit (.int _ z)=>z
  | _=>0
 | _=>[])
theorem a3l:(Rows.laid_math_bits_deBruijn64tab:DataW Unit)=Lib.tabData .u8 b64Tab:=by kernel_rfl
theorem a1o:(Rows.laid_internal_strconv_uint64pow10:DataW Unit)=Lib.tabData .u64 Lib.pow10Tab:=by kernel_rfl
theorem ar3 {W:World}(h:laidMetH Tryz.prog ao1 W):Tb W W.heap.size:=by
 rw[MakeChecks.laidMetH_plain _ _ _ (by kernel_rfl)] at h
 obtain⟨ps,⟨g0,t0,cs0,f0,p0,q0,hg0,ht0,hv0,hd0,⟨g1,t1,cs1,f1,p1,q1,hg1,ht1,hv1,hd1,⟨g2,t2,cs2,f2,p2,q2,hg2,ht2,hv2,hd2,_,_⟩,_⟩,_⟩,_,_⟩:=h
 obtain rfl:=Option.some.inj (gB64.symm.trans hg1)
 obtain rfl:=Option.some.inj (gPow.symm.trans hg2)
 obtain rfl:=Option.some.inj (tB64.symm.trans ht1)
 obtain rfl:=Option.some.inj (tPow.symm.trans ht2)
 rw[a3l] at hd1
 rw[a1o] at hd2
 have c1:=Lib.cells_of_tab Tryz.underlying333 Tryz.underlying5 (by kernel_rfl) (by kernel_rfl) hd1
 have c2:=Lib.cells_of_tab Tryz.underlying323 Tryz.underlying263 (by kernel_rfl) (by kernel_rfl) hd2
 have i1:Lib.TabIs Tryz.prog W "math/bits.deBruijn64tab" .u8 b64Tab:=by unfold Lib.TabIs;rw[hv1,←c1]
 have i2:Lib.TabIs Tryz.prog W "internal/strconv.uint64pow10" .u64 Lib.pow10Tab:=by unfold Lib.TabIs;rw[hv2,←c2]
 have k1:=i1.cell gB64 15 (of_decide_eq_true (by kernel_rfl))
 rw[show b64Tab.getD 15 0=4 by kernel_rfl] at k1
 exact⟨World.block_lt_of_cell? W _ k1,k1,Lib.tabBelow_of_tabIs i2⟩
end Go.Proofs.YtpfkoldfbecdlaaGreatDoor
