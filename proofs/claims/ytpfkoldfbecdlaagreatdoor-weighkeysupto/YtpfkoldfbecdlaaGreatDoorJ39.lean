/- Contracts and lemmas (nothing is claimed here). -/
import Derived.Test.YtpfkoldfbecdlaaGreatDoorJ38
import Derived.BigRegion
import Derived.RegionTactic
namespace Go.Proofs.YtpfkoldfbecdlaaGreatDoor
open Go.RowKit Go.Vf Go.Maps
set_option maxHeartbeats 16000000 in
set_option maxRecDepth 20000 in
theorem wkeys_any (m e:ByteArray)(hm:m.size≤1048576)(he:e.size≤1048576)(s:Int)(hs:InI s)(sh back:Bool)(a b x:ByteArray)(ha:a.size≤1048576)(hb:b.size≤1048576)(_hxx:x.size≤1048576)(w:World)(hg:Glob w)(htb:Tabs w):
  Calls Tryz.prog 4 #[.agg #[.string m,.string e],caseA s sh back a b x] w fun e w'=>e=.returned (.bool true)∧Below w.heap.size w w':=by
 have hb0:=(Below.refl w.heap.size w).alloc (Nat.le_refl _) (.cells #[.string m,.string e] 42)
 have hn0:=Blk.new w 42 #[.string m,.string e]
 have hb1:=hb0.alloc hb0.size (.cells #[.int .i64 s,.bool sh,.bool back,.string a,.string b,.string x] 46)
 have hn1:=Blk.new (w.alloc (.cells #[.string m,.string e] 42)) 46 #[.int .i64 s,.bool sh,.bool back,.string a,.string b,.string x]
 have hn01:=hn0.below ((Below.refl _ _).alloc (Nat.le_refl _) (.cells #[.int .i64 s,.bool sh,.bool back,.string a,.string b,.string x] 46)) hn0.lt
 have hs1:(w.alloc (.cells #[.string m,.string e] 42)).heap.size=w.heap.size+1:=by simp
 have hs2:((w.alloc (.cells #[.string m,.string e] 42)).alloc (.cells #[.int .i64 s,.bool sh,.bool back,.string a,.string b,.string x] 46)).heap.size=w.heap.size+2:=by simp
 rw[hs1] at hn1
 have HG:Aside (Glob w):=hg
 have HTB:Aside (Tabs w):=htb
 clear hg htb
 unfold caseA
 go_enter Tryz.func4,Tryz.ntmps4
 go_upto_region 1 with fail
 generalize (w.alloc (.cells #[.string m,.string e] 42)).alloc (.cells #[.int .i64 s,.bool sh,.bool back,.string a,.string b,.string x] 46)=W1 at hb1 hn1 hn01 hs2⊢
 clear hb0 hn0 hs1
 have hx:=(Below.refl W1.heap.size W1).alloc (Nat.le_refl _) (.cells #[.int .i64 0,.bool false,.bool false] 44)
 have d0:W1.cell? ⟨w.heap.size+1,0,none⟩=some (.int .i64 s):=hn1.cell 0
 have d1:W1.cell? ⟨w.heap.size+1,1,none⟩=some (.bool sh):=hn1.cell 1
 have d2:W1.cell? ⟨w.heap.size+1,2,none⟩=some (.bool back):=hn1.cell 2
 have d3:W1.cell? ⟨w.heap.size+1,3,none⟩=some (.string a):=hn1.cell 3
 have d4:W1.cell? ⟨w.heap.size+1,4,none⟩=some (.string b):=hn1.cell 4
 have e0:=(hx.cell (p:=⟨w.heap.size+1,0,none⟩) hn1.lt).trans d0
 have e1:=(hx.cell (p:=⟨w.heap.size+1,1,none⟩) hn1.lt).trans d1
 have e2:=(hx.cell (p:=⟨w.heap.size+1,2,none⟩) hn1.lt).trans d2
 have e3:=(hx.cell (p:=⟨w.heap.size+1,3,none⟩) hn1.lt).trans d3
 have e4:=(hx.cell (p:=⟨w.heap.size+1,4,none⟩) hn1.lt).trans d4
 have hb2:Below w.heap.size w (W1.alloc (.cells #[.int .i64 s,.bool sh,.bool back] 44)).drew:=(hb1.alloc hb1.size (.cells #[.int .i64 s,.bool sh,.bool back] 44)).drew
 have hC2':=Blk.new W1 44 #[.int .i64 s,.bool sh,.bool back]
 rw[hs2] at hC2'
 have hC2:Blk (W1.alloc (.cells #[.int .i64 s,.bool sh,.bool back] 44)).drew (w.heap.size+2) 44 #[.int .i64 s,.bool sh,.bool back]:=hC2'
 have hM2:Blk (W1.alloc (.cells #[.int .i64 s,.bool sh,.bool back] 44)).drew w.heap.size 42 #[.string m,.string e]:=hn01.below ((Below.refl W1.heap.size W1).alloc (Nat.le_refl _) (.cells #[.int .i64 s,.bool sh,.bool back] 44)).drew hn01.lt
 clear hC2'
 go_region
 clear d0 d1 d2 d3 d4 e0 e1 e2 e3 e4 hx hn1 hn01 hb1
 generalize (W1.alloc (.cells #[.int .i64 s,.bool sh,.bool back] 44)).drew=W2 at hb2 hC2 hM2⊢
 have m0:W2.cell? ⟨w.heap.size,0,none⟩=some (.string m):=hM2.cell 0
 have m1:W2.cell? ⟨w.heap.size,1,none⟩=some (.string e):=hM2.cell 1
 go_wp2_with fail
 refine(loads_any m e hm he s hs sh back a b ha hb W2 (HG.out.below hb2) (HTB.out.own hb2)).mono ?_
 clear m0 m1
 rintro r w3 ⟨hb3,ptr,why,which,line,rfl,hptr,⟨K,hP,hD⟩,hla,hlb⟩
 have HP3:Aside (PAns w3 ptr s sh back a b K):=hP
 have HLA:Aside (LightOk m e w3 a):=hla
 have HLB:Aside (LightOk m e w3 b):=hlb
 have hb03:=hb2.trans (hb3.mono hb2.size)
 have hM3:=hM2.below hb3 hM2.lt
 have hC3:=hC2.below hb3 hC2.lt
 have hd:=hD w3 (Below.refl _ _)
 have m0:w3.cell? ⟨w.heap.size,0,none⟩=some (.string m):=hM3.cell 0
 have m1:w3.cell? ⟨w.heap.size,1,none⟩=some (.string e):=hM3.cell 1
 clear hP hD hla hlb hM2 hC2
 go_wp2_with fail
 refine hd.mono ?_
 clear hd m0 m1
 rintro r w4 ⟨th,da,dn,dc,ta,tn,tc,rfl,hD4,hb4⟩
 have hb5':=(Below.refl w4.heap.size w4).alloc (Nat.le_refl _) (.cells #[.bool th,.slice da dn dc,.slice ta tn tc] 33)
 have hb5:=hb4.alloc hb4.size (.cells #[.bool th,.slice da dn dc,.slice ta tn tc] 33)
 have hX5:=Blk.new w4 33 #[.bool th,.slice da dn dc,.slice ta tn tc]
 have hb05:=hb03.trans (hb5.mono hb03.size)
 have hM5:=hM3.below hb5 hM3.lt
 have hC5:=hC3.below hb5 hC3.lt
 have HX4:Aside (DAns w4 (.agg #[.bool th,.slice da dn dc,.slice ta tn tc]) s sh back a b K):=hD4
 clear hD4 hM3 hC3
 go_upto_region 4 with fail
 generalize w4.alloc (.cells #[.bool th,.slice da dn dc,.slice ta tn tc] 33)=w5 at hb5' hb5 hX5 hb05 hM5 hC5⊢
 have hbX:=hb5'
 generalize w4.heap.size=XB at hX5⊢
 have haw:=awake_any w5 (HG.out.below hb05) (HTB.out.own hb05)
 go_wp2_with fail
 refine haw.mono ?_
 clear haw
 rintro _ w6 ⟨rfl,hb6⟩
 have hb56:=hb5.trans (hb6.mono hb5.size)
 have hb06:=hb05.trans (hb6.mono hb05.size)
 have hM6:=hM5.below hb6 hM5.lt
 have hC6:=hC5.below hb6 hC5.lt
 have hX6:=hX5.below hb6 hX5.lt
 have m0:w6.cell? ⟨w.heap.size,0,none⟩=some (.string m):=hM6.cell 0
 have m1:w6.cell? ⟨w.heap.size,1,none⟩=some (.string e):=hM6.cell 1
 clear hM5 hC5 hX5
 go_wp2_with fail
 refine(HLA.out w6 hb56).mono ?_
 clear m0 m1
 rintro _ w7 ⟨⟨l1,rfl⟩,hb7⟩
 have hb57:=hb56.trans (hb7.mono hb56.size)
 have hb07:=hb06.trans (hb7.mono hb06.size)
 have hM7:=hM6.below hb7 hM6.lt
 have hC7:=hC6.below hb7 hC6.lt
 have hX7:=hX6.below hb7 hX6.lt
 have m0:w7.cell? ⟨w.heap.size,0,none⟩=some (.string m):=hM7.cell 0
 have m1:w7.cell? ⟨w.heap.size,1,none⟩=some (.string e):=hM7.cell 1
 clear hM6 hC6 hX6
 cases l1 with
 | false=>
  go_wp2_with fail
  go_ret
  exact⟨rfl,hb07⟩
 | true=>
 go_wp2_with fail
 refine(HLB.out w7 hb57).mono ?_
 clear m0 m1
 rintro _ w8 ⟨⟨l2,rfl⟩,hb8⟩
 have hb58:=hb57.trans (hb8.mono hb57.size)
 have hb08:=hb07.trans (hb8.mono hb07.size)
 have hC8:=hC7.below hb8 hC7.lt
 have hX8:=hX7.below hb8 hX7.lt
 have HC8:Aside (Blk w8 (w.heap.size+2) 44 #[.int .i64 s,.bool sh,.bool back]):=hC8
 have HX8:Aside (Blk w8 XB 33 #[.bool th,.slice da dn dc,.slice ta tn tc]):=hX8
 have HP8:Aside (Below w3.heap.size w3 w8):=hb58
 have HD8:Aside (Below w4.heap.size w4 w8):=hbX.trans (((hb6.trans (hb7.mono hb6.size)).trans (hb8.mono (hb6.trans (hb7.mono hb6.size)).size)).mono hbX.size)
 have HB08:Aside (Below w.heap.size w w8):=hb08
 have hcl:=hC8.lt
 have hxl:=hX8.lt
 clear hM7 hC7 hX7 hC8 hX8 hb58 hb08 hb57 hb56 hb07 hb06 hb6 hb7 hb8 hb05 hb03 hb2 hb3 hb4 hb5 hb5' hbX HLA HLB
 cases l2 with
 | false=>
  go_wp2_with fail
  go_ret
  exact⟨rfl,HB08.out⟩
 | true=>
 have HB8:Aside (Below w8.heap.size w8 w8):=Below.refl _ _
 have k0:w8.cell? ⟨w.heap.size+2,0,none⟩=some (.int .i64 s):=(HB8.out.cell (p:=⟨w.heap.size+2,0,none⟩) hcl).trans (HC8.out.cell 0)
 have k1:w8.cell? ⟨w.heap.size+2,1,none⟩=some (.bool sh):=(HB8.out.cell (p:=⟨w.heap.size+2,1,none⟩) hcl).trans (HC8.out.cell 1)
 have k2:w8.cell? ⟨w.heap.size+2,2,none⟩=some (.bool back):=(HB8.out.cell (p:=⟨w.heap.size+2,2,none⟩) hcl).trans (HC8.out.cell 2)
 have hc:=HP3.out.key_a w8 (HP8.out.trans (HB8.out.mono HP8.out.size))
 go_wp2_with fail
 refine hc.mono ?_
 clear hc k0 k1 k2
 rintro _ w9 ⟨rfl,hb9⟩
 have HB9:Aside (Below w8.heap.size w8 w9):=HB8.out.trans (hb9.mono HB8.out.size)
 clear hb9
 have k0:w9.cell? ⟨w.heap.size+2,0,none⟩=some (.int .i64 s):=(HB9.out.cell (p:=⟨w.heap.size+2,0,none⟩) hcl).trans (HC8.out.cell 0)
 have k1:w9.cell? ⟨w.heap.size+2,1,none⟩=some (.bool sh):=(HB9.out.cell (p:=⟨w.heap.size+2,1,none⟩) hcl).trans (HC8.out.cell 1)
 have k2:w9.cell? ⟨w.heap.size+2,2,none⟩=some (.bool back):=(HB9.out.cell (p:=⟨w.heap.size+2,2,none⟩) hcl).trans (HC8.out.cell 2)
 have x0:w9.cell? ⟨XB,0,none⟩=some (.bool th):=(HB9.out.cell (p:=⟨XB,0,none⟩) hxl).trans (HX8.out.cell 0)
 have x1:w9.cell? ⟨XB,1,none⟩=some (.slice da dn dc):=(HB9.out.cell (p:=⟨XB,1,none⟩) hxl).trans (HX8.out.cell 1)
 have x2:w9.cell? ⟨XB,2,none⟩=some (.slice ta tn tc):=(HB9.out.cell (p:=⟨XB,2,none⟩) hxl).trans (HX8.out.cell 2)
 have hc:=HX4.out.key_a w9 (HD8.out.trans (HB9.out.mono HD8.out.size))
 go_wp2_with fail
 refine hc.mono ?_
 clear hc k0 k1 k2 x0 x1 x2
 rintro _ w10 ⟨rfl,hb9⟩
 have HB10:Aside (Below w8.heap.size w8 w10):=HB9.out.trans (hb9.mono HB9.out.size)
 clear hb9 HB9
 have k0:w10.cell? ⟨w.heap.size+2,0,none⟩=some (.int .i64 s):=(HB10.out.cell (p:=⟨w.heap.size+2,0,none⟩) hcl).trans (HC8.out.cell 0)
 have k1:w10.cell? ⟨w.heap.size+2,1,none⟩=some (.bool sh):=(HB10.out.cell (p:=⟨w.heap.size+2,1,none⟩) hcl).trans (HC8.out.cell 1)
 have k2:w10.cell? ⟨w.heap.size+2,2,none⟩=some (.bool back):=(HB10.out.cell (p:=⟨w.heap.size+2,2,none⟩) hcl).trans (HC8.out.cell 2)
 have hc:=HP3.out.key_b w10 (HP8.out.trans (HB10.out.mono HP8.out.size))
 go_wp2_with fail
 refine hc.mono ?_
 clear hc k0 k1 k2
 rintro _ w11 ⟨rfl,hb9⟩
 have HB11:Aside (Below w8.heap.size w8 w11):=HB10.out.trans (hb9.mono HB10.out.size)
 clear hb9 HB10
 have k0:w11.cell? ⟨w.heap.size+2,0,none⟩=some (.int .i64 s):=(HB11.out.cell (p:=⟨w.heap.size+2,0,none⟩) hcl).trans (HC8.out.cell 0)
 have k1:w11.cell? ⟨w.heap.size+2,1,none⟩=some (.bool sh):=(HB11.out.cell (p:=⟨w.heap.size+2,1,none⟩) hcl).trans (HC8.out.cell 1)
 have k2:w11.cell? ⟨w.heap.size+2,2,none⟩=some (.bool back):=(HB11.out.cell (p:=⟨w.heap.size+2,2,none⟩) hcl).trans (HC8.out.cell 2)
 have x0:w11.cell? ⟨XB,0,none⟩=some (.bool th):=(HB11.out.cell (p:=⟨XB,0,none⟩) hxl).trans (HX8.out.cell 0)
 have x1:w11.cell? ⟨XB,1,none⟩=some (.slice da dn dc):=(HB11.out.cell (p:=⟨XB,1,none⟩) hxl).trans (HX8.out.cell 1)
 have x2:w11.cell? ⟨XB,2,none⟩=some (.slice ta tn tc):=(HB11.out.cell (p:=⟨XB,2,none⟩) hxl).trans (HX8.out.cell 2)
 have hc:=HX4.out.key_b w11 (HD8.out.trans (HB11.out.mono HD8.out.size))
 go_wp2_with fail
 refine hc.mono ?_
 clear hc k0 k1 k2 x0 x1 x2
 rintro _ w12 ⟨rfl,hb9⟩
 have HB12:Aside (Below w8.heap.size w8 w12):=HB11.out.trans (hb9.mono HB11.out.size)
 clear hb9 HB11
 have k0:w12.cell? ⟨w.heap.size+2,0,none⟩=some (.int .i64 s):=(HB12.out.cell (p:=⟨w.heap.size+2,0,none⟩) hcl).trans (HC8.out.cell 0)
 have k1:w12.cell? ⟨w.heap.size+2,1,none⟩=some (.bool sh):=(HB12.out.cell (p:=⟨w.heap.size+2,1,none⟩) hcl).trans (HC8.out.cell 1)
 have k2:w12.cell? ⟨w.heap.size+2,2,none⟩=some (.bool back):=(HB12.out.cell (p:=⟨w.heap.size+2,2,none⟩) hcl).trans (HC8.out.cell 2)
 have hc:=HP3.out.cmp w12 (HP8.out.trans (HB12.out.mono HP8.out.size))
 go_wp2_with fail
 refine hc.mono ?_
 clear hc k0 k1 k2
 rintro _ w13 ⟨rfl,hb9⟩
 have HB13:Aside (Below w8.heap.size w8 w13):=HB12.out.trans (hb9.mono HB12.out.size)
 clear hb9 HB12
 have k0:w13.cell? ⟨w.heap.size+2,0,none⟩=some (.int .i64 s):=(HB13.out.cell (p:=⟨w.heap.size+2,0,none⟩) hcl).trans (HC8.out.cell 0)
 have k1:w13.cell? ⟨w.heap.size+2,1,none⟩=some (.bool sh):=(HB13.out.cell (p:=⟨w.heap.size+2,1,none⟩) hcl).trans (HC8.out.cell 1)
 have k2:w13.cell? ⟨w.heap.size+2,2,none⟩=some (.bool back):=(HB13.out.cell (p:=⟨w.heap.size+2,2,none⟩) hcl).trans (HC8.out.cell 2)
 have x0:w13.cell? ⟨XB,0,none⟩=some (.bool th):=(HB13.out.cell (p:=⟨XB,0,none⟩) hxl).trans (HX8.out.cell 0)
 have x1:w13.cell? ⟨XB,1,none⟩=some (.slice da dn dc):=(HB13.out.cell (p:=⟨XB,1,none⟩) hxl).trans (HX8.out.cell 1)
 have x2:w13.cell? ⟨XB,2,none⟩=some (.slice ta tn tc):=(HB13.out.cell (p:=⟨XB,2,none⟩) hxl).trans (HX8.out.cell 2)
 have hc:=HX4.out.cmp w13 (HD8.out.trans (HB13.out.mono HD8.out.size))
 go_wp2_with fail
 refine hc.mono ?_
 clear hc k0 k1 k2 x0 x1 x2
 rintro _ w14 ⟨rfl,hb9⟩
 have HB14:Aside (Below w8.heap.size w8 w14):=HB13.out.trans (hb9.mono HB13.out.size)
 clear hb9 HB13
 have hc:=HP3.out.same w14 (HP8.out.trans (HB14.out.mono HP8.out.size))
 go_wp2_with fail
 refine hc.mono ?_
 clear hc
 rintro _ w15 ⟨rfl,hb9⟩
 have HB15:Aside (Below w8.heap.size w8 w15):=HB14.out.trans (hb9.mono HB14.out.size)
 clear hb9 HB14
 have x0:w15.cell? ⟨XB,0,none⟩=some (.bool th):=(HB15.out.cell (p:=⟨XB,0,none⟩) hxl).trans (HX8.out.cell 0)
 have x1:w15.cell? ⟨XB,1,none⟩=some (.slice da dn dc):=(HB15.out.cell (p:=⟨XB,1,none⟩) hxl).trans (HX8.out.cell 1)
 have x2:w15.cell? ⟨XB,2,none⟩=some (.slice ta tn tc):=(HB15.out.cell (p:=⟨XB,2,none⟩) hxl).trans (HX8.out.cell 2)
 have hc:=HX4.out.same w15 (HD8.out.trans (HB15.out.mono HD8.out.size))
 go_wp2_with fail
 refine hc.mono ?_
 clear hc x0 x1 x2
 rintro _ w16 ⟨rfl,hb9⟩
 have HB16:Aside (Below w8.heap.size w8 w16):=HB15.out.trans (hb9.mono HB15.out.size)
 clear hb9 HB15
 have k0:w16.cell? ⟨w.heap.size+2,0,none⟩=some (.int .i64 s):=(HB16.out.cell (p:=⟨w.heap.size+2,0,none⟩) hcl).trans (HC8.out.cell 0)
 have k1:w16.cell? ⟨w.heap.size+2,1,none⟩=some (.bool sh):=(HB16.out.cell (p:=⟨w.heap.size+2,1,none⟩) hcl).trans (HC8.out.cell 1)
 have k2:w16.cell? ⟨w.heap.size+2,2,none⟩=some (.bool back):=(HB16.out.cell (p:=⟨w.heap.size+2,2,none⟩) hcl).trans (HC8.out.cell 2)
 have hc:=HP3.out.key_a w16 (HP8.out.trans (HB16.out.mono HP8.out.size))
 go_wp2_with fail
 refine hc.mono ?_
 clear hc k0 k1 k2
 rintro _ w17 ⟨rfl,hb9⟩
 have HB17:Aside (Below w8.heap.size w8 w17):=HB16.out.trans (hb9.mono HB16.out.size)
 clear hb9 HB16
 have HE:Aside (Below w.heap.size w w17):=HB08.out.trans (HB17.out.mono HB08.out.size)
 clear HB17 HP3 HX4 HP8 HD8 HC8 HX8 HB08
 obtain⟨ka,ea,kb,eb,c,ec,sb,es⟩:=K
 go_wp2_with fail
 go_ret
 exact⟨rfl,HE.out⟩
end Go.Proofs.YtpfkoldfbecdlaaGreatDoor
namespace Go.Proofs.YtpfkoldfbecdlaaGreatDoor
open Go.ChangeShapes Go.WideShapes Go.ChangeAt Go.RowKit Go.Vf Go.Maps
set_option maxRecDepth 100000 in
theorem wkeys_open {H:Type}{enc:TypeId×Value→H}{base:Nat}{W:World}(v:Value)(d:DataW H)(pl:List MemPlace)(hok:Value.okWide Tryz.prog W .any base 42 v)(h:DataW.Trod enc Tryz.prog W 0 (fun _=>true) true 42 v d pl)(_hw: ∀n∈d.weights Tryz.prog 42,n≤reachBytes)(hbk:Rows.uptoBulk d≤1048576)
  (v1:Value) (d1:DataW H) (pl1:List MemPlace) (hok1:Value.okWide Tryz.prog W .any base 46 v1) (h1:DataW.Trod enc Tryz.prog W 0 (fun _=>true) true 46 v1 d1 pl1) (_hw1: ∀n∈d1.weights Tryz.prog 46,n≤reachBytes) (hbk1:Rows.uptoBulk d1≤1048576)
  (w:World) (hg:Glob w) (ht:Tabs w) (_hW:w=W):
  Calls Tryz.prog 4 #[v,v1] w fun e w'=>e=.returned (.bool true)∧Below w.heap.size w w':=by
 obtain⟨m,e,rfl,hm,he⟩:=ttexts_open v d pl hok h hbk
 obtain⟨s,sh,back,a,b,x,rfl,hs,ha,hb,hx⟩:=case_open v1 d1 pl1 hok1 h1 hbk1
 exact wkeys_any m e hm he s hs sh back a b x ha hb hx w hg ht
end Go.Proofs.YtpfkoldfbecdlaaGreatDoor
