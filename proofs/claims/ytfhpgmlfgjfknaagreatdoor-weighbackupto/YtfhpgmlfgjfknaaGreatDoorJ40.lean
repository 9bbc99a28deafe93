/- Contracts and lemmas (nothing is claimed here). -/
import Derived.Test.YtfhpgmlfgjfknaaGreatDoorJ39
import Derived.RegionTactic
namespace Go.Proofs.YtfhpgmlfgjfknaaGreatDoor
open Go.RowKit Go.Vf Go.Maps
def a5k (L:List Mk)(E:List Ent)(X:List Int)(er:Int):List El:=if er=0 then am8 L E X else []
theorem al9 {s:Int}{sh:Bool}{n:Nat}{r:List UInt8}(h:ai9 s sh n r=0):n≤65536∧(1≤s∧s≤4):=by
 unfold ai9 at h
 split at h
 ·rename_i hr
  refine⟨?_,a2t hr⟩
  split at h
  ·cases h
  ·omega
 ·cases h
theorem a4n (s:Int)(sh:Bool)(n:Nat)(r:List UInt8):ai9 s sh n r=0∨ai9 s sh n r=1∨ai9 s sh n r=2∨ai9 s sh n r=30:=by
 unfold ai9
 repeat' split
 all_goals simp
theorem a6p {E:List Ent}(hok: ∀e∈E,EntOk e)(L:List Mk){X:List Int}{er:Int}(h:er=0→X.length≤3750000):(∀e∈a5k L E X er,av6 e)∧(a5k L E X er).length≤60000000:=by
 unfold a5k
 split
 ·rename_i h0
  have h1:=h h0
  have h2:=aro hok (abo (aaa L) (ach E) X)
  have h3:=aeh (cls:=aaa L) (fnd:=ach E) X
  exact⟨av0 hok _,by unfold am8;omega⟩
 ·simp
section
variable {L:List Mk}{F:Int→List Int}{E:List Ent}{s:Int}{sh back:Bool}{a b:ByteArray}{ps qs:List Nat}{ra rb:List UInt8}{X Y:List Int}
theorem auw {w:World}{p bd T:Nat}(h:TbAt w p bd T L F E)(hs:InI s)(ha:Spelt L F a ps ra X)(hX:X.length≤57*ps.length):WelF p bd T L F E s sh back a (a5k L E X (ai9 s sh a.size ra)) (ai9 s sh a.size ra):=by
 have hl:=ha.len
 have hq:=a6p h.ok L (X:=X) (er:=ai9 s sh a.size ra) (fun h0=>by have:=(al9 h0).1;omega)
 refine⟨a4n _ _ _ _,fun h0=>(al9 h0).2,hq.1,hq.2,fun w hw ht W hW=> ?_⟩
 refine(ain (hw.below hW) (ht.own hW) s hs sh back a ps ra ha.split ha.pts ha.rest ha.form.form hX).mono ?_
 rintro e w' ⟨hb,⟨h0,v,h1,h2⟩ | h1⟩
 ·exact⟨hb,.inl ⟨h0,v,h1,by unfold a5k;rw[if_pos h0];exact h2⟩⟩
 ·exact⟨hb,.inr h1⟩
theorem a05 {L':List Mk}{l:List Ent}(hc:aaa L'=aaa L)(hf:ach l=ach E)(he:av2 l=av2 E)(X:List Int)(er:Int):a5k L' l X er=a5k L E X er:=by
 unfold a5k am8 aie
 rw[hc,hf,he]
theorem Spelt.cls {L':List Mk}{txt:ByteArray}(hc:aaa L'=aaa L)(h:Spelt L F txt ps ra X):Spelt L' F txt ps ra X:=by
 refine⟨h.split,h.pts,h.rest,⟨?_,h.form.mem,h.form.len⟩⟩
 have:=h.form.form
 unfold ahx at this⊢
 rw[hc]
 exact this
end
structure KAns (W0 w0:World)(p:Nat)(s:Int)(sh back:Bool)(a b:ByteArray)(k:ByteArray)(g x i:Int):Prop where
 key: ∀W,Below W0.heap.size W0 W→Below w0.heap.size w0 W→Calls Tryz.prog 12 #[.pointer (some ⟨p,0,none⟩),.agg #[.int .i64 s,.bool sh,.bool back],.string a] W fun e w'=>e=.returned (.tuple #[.string k,.int .i64 g])∧Below W.heap.size W w'
 cmp: ∀W,Below W0.heap.size W0 W→Below w0.heap.size w0 W→Calls Tryz.prog 13 #[.pointer (some ⟨p,0,none⟩),.agg #[.int .i64 s,.bool sh,.bool back],.string a,.string b] W fun e w'=>e=.returned (.tuple #[.int .i64 x,.int .i64 i])∧Below W.heap.size W w'
theorem a4y {W0 w0:World}(htb: ∀W,Below w0.heap.size w0 W→Tabs W){p bd T p' bd' T':Nat}{L L':List Mk}{F:Int→List Int}{E l:List Ent}(h:TbAt W0 p bd T L F E)(h':TbAt W0 p' bd' T' L' F l)(hR: ∃t,aaw t=.ok (L,F))(hc:aaa L'=aaa L)(hf:ach l=ach E)(he:av2 l=av2 E){s:Int}(hs:InI s)(sh back:Bool)(a b:ByteArray):
  ∃k g x i,KAns W0 w0 p s sh back a b k g x i∧KAns W0 w0 p' s sh back a b k g x i:=by
 obtain⟨t,hR⟩:=hR
 obtain⟨ps,ra,X,hA⟩:=ap9 hR a
 obtain⟨qs,rb,Y,hB⟩:=ap9 hR b
 have hX:=hA.xlen h.data
 have hY:=hB.xlen h.data
 have ga:=fun {W:World} (hW:Below W0.heap.size W0 W)=>auw (sh:=sh) (back:=back) (h.below hW) hs hA hX
 have gb:=fun {W:World} (hW:Below W0.heap.size W0 W)=>auw (sh:=sh) (back:=back) (h.below hW) hs hB hY
 have ga':=fun {W:World} (hW:Below W0.heap.size W0 W)=>auw (sh:=sh) (back:=back) (h'.below hW) hs (hA.cls hc) hX
 have gb':=fun {W:World} (hW:Below W0.heap.size W0 W)=>auw (sh:=sh) (back:=back) (h'.below hW) hs (hB.cls hc) hY
 rw[a05 hc hf he] at ga' gb'
 exact⟨_,_,_,_,⟨fun W h1 h2=>a7u (ga h1) (h.below h1) (htb W h2),fun W h1 h2=>a8g (ga h1) (gb h1) (h.below h1) (htb W h2)⟩,
  ⟨fun W h1 h2=>a7u (ga' h1) (h'.below h1) (htb W h2),fun W h1 h2=>a8g (ga' h1) (gb' h1) (h'.below h1) (htb W h2)⟩⟩
set_option maxHeartbeats 8000000 in
set_option maxRecDepth 20000 in
theorem ayf (m e:ByteArray)(hm:m.size≤1048576)(he:e.size≤1048576)(s:Int)(hs:InI s)(sh back:Bool)(a b x:ByteArray)(ha:a.size≤1048576)(hb:b.size≤1048576)(_hxx:x.size≤1048576)(w:World)(hg:Glob w)(htb:Tabs w)(htk:Tb w w.heap.size):
  Calls Tryz.prog 6 #[.agg #[.string m,.string e],a6v s sh back a b x] w fun e w'=>e=.returned (.bool true)∧Below w.heap.size w w':=by
 have hb0:=(Below.refl w.heap.size w).alloc (Nat.le_refl _) (.cells #[.string m,.string e] 23)
 have hn0:=Blk.new w 23 #[.string m,.string e]
 have hb1:=hb0.alloc hb0.size (.cells #[.int .i64 s,.bool sh,.bool back,.string a,.string b,.string x] 27)
 have hn1:=Blk.new (w.alloc (.cells #[.string m,.string e] 23)) 27 #[.int .i64 s,.bool sh,.bool back,.string a,.string b,.string x]
 have hn01:=hn0.below ((Below.refl _ _).alloc (Nat.le_refl _) (.cells #[.int .i64 s,.bool sh,.bool back,.string a,.string b,.string x] 27)) hn0.lt
 have hs1:(w.alloc (.cells #[.string m,.string e] 23)).heap.size=w.heap.size+1:=by simp
 have hs2:((w.alloc (.cells #[.string m,.string e] 23)).alloc (.cells #[.int .i64 s,.bool sh,.bool back,.string a,.string b,.string x] 27)).heap.size=w.heap.size+2:=by simp
 rw[hs1] at hn1
 have HG:Aside (Glob w):=hg
 have HTB:Aside (Tabs w):=htb
 have HTK:Aside (Tb w w.heap.size):=htk
 clear hg htb htk
 unfold a6v
 go_enter Tryz.func6,Tryz.ntmps6
 go_upto_region 1 with fail
 generalize (w.alloc (.cells #[.string m,.string e] 23)).alloc (.cells #[.int .i64 s,.bool sh,.bool back,.string a,.string b,.string x] 27)=W1 at hb1 hn1 hn01 hs2⊢
 clear hb0 hn0 hs1
 have hx:=(Below.refl W1.heap.size W1).alloc (Nat.le_refl _) (.cells #[.int .i64 0,.bool false,.bool false] 25)
 have d0:W1.cell? ⟨w.heap.size+1,0,none⟩=some (.int .i64 s):=hn1.cell 0
 have d1:W1.cell? ⟨w.heap.size+1,1,none⟩=some (.bool sh):=hn1.cell 1
 have d2:W1.cell? ⟨w.heap.size+1,2,none⟩=some (.bool back):=hn1.cell 2
 have d3:W1.cell? ⟨w.heap.size+1,3,none⟩=some (.string a):=hn1.cell 3
 have d4:W1.cell? ⟨w.heap.size+1,4,none⟩=some (.string b):=hn1.cell 4
 have e0:=(hx.cell (p:=⟨w.heap.size+1,0,none⟩) hn1.lt).trans d0
 have e1:=(hx.cell (p:=⟨w.heap.size+1,1,none⟩) hn1.lt).trans d1
 have e2:=(hx.cell (p:=⟨w.heap.size+1,2,none⟩) hn1.lt).trans d2
 have e3:=(hx.cell (p:=⟨w.heap.size+1,3,none⟩) hn1.lt).trans d3
 have e4:=(hx.cell (p:=⟨w.heap.size+1,4,none⟩) hn1.lt).trans d4
 have hb2:Below w.heap.size w (W1.alloc (.cells #[.int .i64 s,.bool sh,.bool back] 25)).drew:=(hb1.alloc hb1.size (.cells #[.int .i64 s,.bool sh,.bool back] 25)).drew
 have hC2':=Blk.new W1 25 #[.int .i64 s,.bool sh,.bool back]
 rw[hs2] at hC2'
 have hC2:Blk (W1.alloc (.cells #[.int .i64 s,.bool sh,.bool back] 25)).drew (w.heap.size+2) 25 #[.int .i64 s,.bool sh,.bool back]:=hC2'
 have hM2:Blk (W1.alloc (.cells #[.int .i64 s,.bool sh,.bool back] 25)).drew w.heap.size 23 #[.string m,.string e]:=hn01.below ((Below.refl W1.heap.size W1).alloc (Nat.le_refl _) (.cells #[.int .i64 s,.bool sh,.bool back] 25)).drew hn01.lt
 clear hC2'
 go_region
 clear d0 d1 d2 d3 d4 e0 e1 e2 e3 e4 hx hn1 hn01 hb1
 generalize (W1.alloc (.cells #[.int .i64 s,.bool sh,.bool back] 25)).drew=W2 at hb2 hC2 hM2⊢
 have m0:W2.cell? ⟨w.heap.size,0,none⟩=some (.string m):=hM2.cell 0
 have m1:W2.cell? ⟨w.heap.size,1,none⟩=some (.string e):=hM2.cell 1
 go_wp2_with fail
 refine(aln m e (by omega) (by omega) W2 (HG.out.below hb2)).mono ?_
 clear m0 m1
 rintro r w3 ⟨hb3,⟨why,which,line,hl,rfl⟩ | ⟨L,F,E,tb,bd,T,hl,rfl,hT3⟩⟩
 ·have hy0:=a3p hl
  have hy1:(why==0)=false:=by simpa using hy0
  have hy2:(why !=0)=true:=by simpa using hy0
  have hb03:=hb2.trans (hb3.mono hb2.size)
  have haw:=ar3 w3 (HG.out.below hb03) (HTB.out.own hb03)
  clear hl
  go_wp2_with fail
  refine haw.mono ?_
  rintro _ w4 ⟨rfl,hb4⟩
  go_wp2
  go_ret
  exact⟨rfl,hb03.trans (hb4.mono hb03.size)⟩
 obtain⟨hR,hTe⟩:=a5f hl
 obtain⟨ss,L',hs1,hsl,hs2,hs3,hs4⟩:=a1y hR
 have h57: ∀L F,aaw m.data.toList=.ok (L,F)→ ∀q,(aa4 F q).length≤57:=by
  intro L' F' h q
  rw[hR] at h
  cases h
  exact(hT3.data.plen q).1
 have H57:Aside (∀L F,aaw m.data.toList=.ok (L,F)→ ∀q,(aa4 F q).length≤57):=h57
 have HRM:Aside (aaw m.data.toList=.ok (L,F)):=hR
 have HTE:Aside (ab9 e.data.toList=.ok E):=hTe
 have HSI:Aside (InI s):=hs
 have HCL:Aside (aaa L'=aaa L):=hs4
 have HS2:Aside (aaw ss=.ok (L',F)):=hs2
 have hP':afi (aag L')=.ok ss:=by rw[hs3];exact hs1
 have HP':Aside (afi (aag L')=.ok ss):=hP'
 have hb03:=hb2.trans (hb3.mono hb2.size)
 have hM3:=hM2.below hb3 hM2.lt
 have hC3:=hC2.below hb3 hC2.lt
 have hz1:(bsz ss).size≤1048576:=by rw[abt];rw[←Lib.size_eq] at hsl;omega
 have HZ1:Aside ((bsz ss).size≤1048576):=hz1
 have htx:=am3 hl hT3 ((HTK.out.below hb03).up hb03.size) hs1
 have HT3:Aside (TbAt w3 tb bd T L F E):=hT3
 clear hl hR h57 hTe hs hs1 hs2 hs3 hs4 hsl hP' hz1 hT3 hM2 hC2
 go_wp2_with fail
 refine htx.mono ?_
 clear htx
 rintro _ w4 ⟨l,hpe,hri,rfl,hb4⟩
 have hb04:=hb03.trans (hb4.mono hb03.size)
 have hM4:=hM3.below hb4 hM3.lt
 have hC4:=hC3.below hb4 hC3.lt
 have HT4:Aside (TbAt w4 tb bd T L F E):=HT3.out.below hb4
 have hq1:=ark HTE.out hpe
 have hq2:(bsz (ad2 l)).size≤1048576:=by have:=ah4 HTE.out hpe;rw[abt];rw[←Lib.size_eq] at this;omega
 have hl2:adu (bsz ss).data.toList (bsz (ad2 l)).data.toList=.ok ((L',F),l):=a3o HS2.out hq1
 have HL2:Aside (adu (bsz ss).data.toList (bsz (ad2 l)).data.toList=.ok ((L',F),l)):=hl2
 have HPE:Aside (l.Perm E):=hpe
 have HRI:Aside (akp l):=hri
 have hld:=aln (bsz ss) (bsz (ad2 l)) (by have:=HZ1.out;omega) (by omega) w4 (HG.out.below hb04)
 generalize hsm:bsz ss=sm at hld HL2⊢
 generalize hst:bsz (ad2 l)=st at hld HL2⊢
 have HSM:Aside (bsz ss=sm):=hsm
 have HST:Aside (bsz (ad2 l)=st):=hst
 clear HT3 hM3 hC3 hq1 hq2 hl2 hpe hri hsm hst
 go_wp2_with fail
 refine hld.mono ?_
 clear hld
 rintro r w5 ⟨hb5,⟨why,which,line,hl,_⟩ | ⟨L2,F2,E2,tb2,bd2,T2,hl,rfl,hT5⟩⟩
 ·rw[HL2.out] at hl;cases hl
 rw[HL2.out] at hl
 cases hl
 have hb05:=hb04.trans (hb5.mono hb04.size)
 have hM5:=hM4.below hb5 hM4.lt
 have hC5:=hC4.below hb5 hC4.lt
 have hTA:TbAt w5 tb bd T L F E:=HT4.out.below hb5
 have htx:=am3 HL2.out hT5 ((HTK.out.below hb05).up hb05.size) HP'.out
 unfold a5o at htx
 rw[HSM.out] at htx
 have HTW:Aside (∀W,Below w.heap.size w W→Tabs W):=fun W h=>HTB.out.own h
 have hfe:=a4c HTE.out HPE.out
 obtain⟨kk,gg,xx,ii,hk1,hk2⟩:=a4y HTW.out hTA hT5 ⟨_,HRM.out⟩ HCL.out hfe.1 hfe.2 HSI.out sh back a b
 have HK1:Aside (KAns w5 w tb s sh back a b kk gg xx ii):=hk1
 have HK2:Aside (KAns w5 w tb2 s sh back a b kk gg xx ii):=hk2
 have HB05:Aside (Below w.heap.size w w5):=hb05
 have HM5:Aside (Blk w5 w.heap.size 23 #[.string m,.string e]):=hM5
 have HC5:Aside (Blk w5 (w.heap.size+2) 25 #[.int .i64 s,.bool sh,.bool back]):=hC5
 have HGW:Aside (∀W,Below w.heap.size w W→Glob W):=fun W h=>HG.out.below h
 clear HT4 hM4 hC4 hb2 hb3 hb03 hb4 hb04 hb5 hb05 hM5 hC5 hTA hT5 hfe hk1 hk2
 go_wp2_with fail
 refine htx.mono ?_
 clear htx
 rintro _ w6 ⟨l2,hp2,hr2,rfl,hb6⟩
 have hle:=a2s hp2 hr2 HRI.out
 subst hle
 rw[HST.out]
 have HB06:Aside (Below w5.heap.size w5 w6):=hb6
 have HZ6:Aside (Below w.heap.size w w6):=HB05.out.trans (hb6.mono HB05.out.size)
 clear hp2 hr2 hb6 HTE HPE HRI HSM HST HL2 HP' HS2 HCL HZ1 HRM HG HTB HTK
 have t1:(sm.toList==sm.toList)=true:=by simp
 have t2:(st.toList==st.toList)=true:=by simp
 have m0:w6.cell? ⟨w.heap.size,0,none⟩=some (.string m):=(HM5.out.old HB06.out).cell 0
 have m1:w6.cell? ⟨w.heap.size,1,none⟩=some (.string e):=(HM5.out.old HB06.out).cell 1
 go_wp2_with fail
 refine(am5 m e a (by omega) (by omega) (by omega) H57.out w6).mono ?_
 clear m0 m1 t1 t2
 rintro _ w7 ⟨⟨la,rfl⟩,hb7⟩
 have HB07:Aside (Below w5.heap.size w5 w7):=HB06.out.trans (hb7.mono HB06.out.size)
 have HZ7:Aside (Below w.heap.size w w7):=HZ6.out.trans (hb7.mono HZ6.out.size)
 have m0:w7.cell? ⟨w.heap.size,0,none⟩=some (.string m):=(HM5.out.old HB07.out).cell 0
 have m1:w7.cell? ⟨w.heap.size,1,none⟩=some (.string e):=(HM5.out.old HB07.out).cell 1
 clear hb7 HB06 HZ6
 cases la with
 | false=>
  go_wp2_with fail
  go_ret
  exact⟨rfl,HZ7.out⟩
 | true=>
 go_wp2_with fail
 refine(am5 m e b (by omega) (by omega) (by omega) H57.out w7).mono ?_
 clear m0 m1
 rintro _ w8 ⟨⟨lb,rfl⟩,hb8⟩
 have HB08:Aside (Below w5.heap.size w5 w8):=HB07.out.trans (hb8.mono HB07.out.size)
 have HZ8:Aside (Below w.heap.size w w8):=HZ7.out.trans (hb8.mono HZ7.out.size)
 clear hb8 HB07 HZ7
 cases lb with
 | false=>
  go_wp2_with fail
  go_ret
  exact⟨rfl,HZ8.out⟩
 | true=>
 have HCB:Aside (∀W,Below w5.heap.size w5 W→(W.cell? ⟨w.heap.size+2,0,none⟩=some (.int .i64 s)∧W.cell? ⟨w.heap.size+2,1,none⟩=some (.bool sh)∧W.cell? ⟨w.heap.size+2,2,none⟩=some (.bool back))):=fun W h=>⟨(HC5.out.old h).cell 0,(HC5.out.old h).cell 1,(HC5.out.old h).cell 2⟩
 have hc:=HK1.out.key w8 HB08.out HZ8.out
 obtain⟨c0,c1,c2⟩:=HCB.out w8 HB08.out
 go_wp2_with fail
 refine hc.mono ?_
 clear hc c0 c1 c2
 rintro _ w9 ⟨rfl,hbn⟩
 have HB09:Aside (Below w5.heap.size w5 w9):=HB08.out.trans (hbn.mono HB08.out.size)
 have HZ9:Aside (Below w.heap.size w w9):=HZ8.out.trans (hbn.mono HZ8.out.size)
 clear hbn HB08 HZ8
 have hc:=HK2.out.key w9 HB09.out HZ9.out
 obtain⟨c0,c1,c2⟩:=HCB.out w9 HB09.out
 go_wp2_with fail
 refine hc.mono ?_
 clear hc c0 c1 c2
 rintro _ wA ⟨rfl,hbn⟩
 have HB0A:Aside (Below w5.heap.size w5 wA):=HB09.out.trans (hbn.mono HB09.out.size)
 have HZA:Aside (Below w.heap.size w wA):=HZ9.out.trans (hbn.mono HZ9.out.size)
 clear hbn HB09 HZ9
 have hc:=HK1.out.cmp wA HB0A.out HZA.out
 obtain⟨c0,c1,c2⟩:=HCB.out wA HB0A.out
 go_wp2_with fail
 refine hc.mono ?_
 clear hc c0 c1 c2
 rintro _ wB ⟨rfl,hbn⟩
 have HB0B:Aside (Below w5.heap.size w5 wB):=HB0A.out.trans (hbn.mono HB0A.out.size)
 have HZB:Aside (Below w.heap.size w wB):=HZA.out.trans (hbn.mono HZA.out.size)
 clear hbn HB0A HZA
 have hc:=HK2.out.cmp wB HB0B.out HZB.out
 obtain⟨c0,c1,c2⟩:=HCB.out wB HB0B.out
 go_wp2_with fail
 refine hc.mono ?_
 clear hc c0 c1 c2
 rintro _ wC ⟨rfl,hbn⟩
 have HB0C:Aside (Below w5.heap.size w5 wC):=HB0B.out.trans (hbn.mono HB0B.out.size)
 have HZC:Aside (Below w.heap.size w wC):=HZB.out.trans (hbn.mono HZB.out.size)
 clear hbn HB0B HZB
 have hzz:=HZC.out
 have t1:(kk.toList==kk.toList)=true:=by simp
 have t2:(gg==gg)=true:=by simp
 have t3:(xx==xx)=true:=by simp
 have t4:(ii==ii)=true:=by simp
 have haw:=ar3 wC (HGW.out _ hzz) (HTW.out _ hzz)
 clear HK1 HK2 HCB
 go_wp2_with fail
 refine haw.mono ?_
 clear haw
 rintro _ wz ⟨rfl,hbz⟩
 go_wp2_with fail
 go_ret
 exact⟨rfl,hzz.trans (hbz.mono hzz.size)⟩
end Go.Proofs.YtfhpgmlfgjfknaaGreatDoor
namespace Go.Proofs.YtfhpgmlfgjfknaaGreatDoor
open Go.ChangeShapes Go.WideShapes Go.ChangeAt Go.RowKit Go.Vf Go.Maps
set_option maxRecDepth 100000 in
theorem awb {H:Type}{enc:TypeId×Value→H}{base:Nat}{W:World}(v:Value)(d:DataW H)(pl:List MemPlace)(hok:Value.okWide Tryz.prog W .any base 23 v)(h:DataW.Trod enc Tryz.prog W 0 (fun _=>true) true 23 v d pl)(_hw: ∀n∈d.weights Tryz.prog 23,n≤reachBytes)(hbk:Rows.uptoBulk d≤1048576)
  (v1:Value) (d1:DataW H) (pl1:List MemPlace) (hok1:Value.okWide Tryz.prog W .any base 27 v1) (h1:DataW.Trod enc Tryz.prog W 0 (fun _=>true) true 27 v1 d1 pl1) (_hw1: ∀n∈d1.weights Tryz.prog 27,n≤reachBytes) (hbk1:Rows.uptoBulk d1≤1048576)
  (w:World) (hg:Glob w) (ht:Tabs w) (htk:Tb w w.heap.size) (_hW:w=W):
  Calls Tryz.prog 6 #[v,v1] w fun e w'=>e=.returned (.bool true)∧Below w.heap.size w w':=by
 obtain⟨m,e,rfl,hm,he⟩:=ask v d pl hok h hbk
 obtain⟨s,sh,back,a,b,x,rfl,hs,ha,hb,hx⟩:=a1s v1 d1 pl1 hok1 h1 hbk1
 exact ayf m e hm he s hs sh back a b x ha hb hx w hg ht htk
end Go.Proofs.YtfhpgmlfgjfknaaGreatDoor
