/- Contracts and lemmas (nothing is claimed here). -/
import Derived.Test.YtfhpgmlfgjfknaaGreatDoorJ31
namespace Go.Proofs.YtfhpgmlfgjfknaaGreatDoor
open Go.RowKit Go.Vf Go.Maps
def a69 (s:Int)(sh back:Bool)(xs ys:List El)(ex ey:Int)(w:World)(e:Ending)(w':World):Prop:=
 Below w.heap.size w w'∧((ex=0∧ey=0∧e=.returned (.tuple #[.int .i64 (amx sh back xs ys (List.range s.toNat)),.int .i64 0]))∨(ex≠0∧e=.returned (.tuple #[.int .i64 0,.int .i64 ex]))∨(ex=0∧ey≠0∧e=.returned (.tuple #[.int .i64 0,.int .i64 ey])))
set_option maxHeartbeats 8000000 in
set_option maxRecDepth 20000 in
theorem aj6 {xs ys:List El}{ex ey:Int}{b:Nat}{s:Int}{sh back:Bool}{ta tb:ByteArray}{w:World}(hokx: ∀e∈xs,av6 e)(hoky: ∀e∈ys,av6 e)(hlx:xs.length≤60000000)(hly:ys.length≤60000000)(hs:ex=0→1≤s∧s≤4)
  (helx: ∀W,Below w.heap.size w W→Calls Tryz.prog 25 #[.pointer (some ⟨b,0,none⟩),ax8 s sh back,.string ta] W fun e w'=>aom xs ex W e w')
  (hely: ∀W,Below w.heap.size w W→Calls Tryz.prog 25 #[.pointer (some ⟨b,0,none⟩),ax8 s sh back,.string tb] W fun e w'=>aom ys ey W e w'):
  Calls Tryz.prog 13 #[.pointer (some ⟨b,0,none⟩),ax8 s sh back,.string ta,.string tb] w fun e w'=>a69 s sh back xs ys ex ey w e w':=by
 have hb0:=(Below.refl w.heap.size w).alloc (Nat.le_refl _) (.cells #[.int .i64 s,.bool sh,.bool back] 25)
 have hn0:=Blk.new w 25 #[.int .i64 s,.bool sh,.bool back]
 have c0:(w.alloc (.cells #[.int .i64 s,.bool sh,.bool back] 25)).cell? ⟨w.heap.size,0,none⟩=some (.int .i64 s):=hn0.cell 0
 have c1:(w.alloc (.cells #[.int .i64 s,.bool sh,.bool back] 25)).cell? ⟨w.heap.size,1,none⟩=some (.bool sh):=hn0.cell 1
 have c2:(w.alloc (.cells #[.int .i64 s,.bool sh,.bool back] 25)).cell? ⟨w.heap.size,2,none⟩=some (.bool back):=hn0.cell 2
 have hx0:=helx _ hb0
 have HELY:Hid _:=hely
 clear helx hely
 go_enter Tryz.func13,Tryz.ntmps13
 go_wp2_with fail
 generalize w.alloc (.cells #[.int .i64 s,.bool sh,.bool back] 25)=w0 at*
 refine hx0.mono ?_
 rintro r w1 ⟨hb1,⟨rfl,v1,rfl,hown1⟩ | ⟨her,rfl⟩⟩
 ·have hb01:=hb0.trans (hb1.mono hb0.size)
  have hy0:=HELY.out w1 hb01
  have k0:=(hb1.cell (p:=⟨w.heap.size,0,none⟩) hn0.lt).trans c0
  have k1:=(hb1.cell (p:=⟨w.heap.size,1,none⟩) hn0.lt).trans c1
  have k2:=(hb1.cell (p:=⟨w.heap.size,2,none⟩) hn0.lt).trans c2
  obtain⟨xa,xc,rfl,_⟩:=hown1.cap
  have HX1:Aside (Els w1.heap.size w1 (.slice xa xs.length xc) xs):=EOwn.els hown1
  clear hx0 HELY c0 c1 c2 hown1
  go_wp2_with fail
  refine hy0.mono ?_
  rintro r w2 ⟨hb2,⟨rfl,v2,rfl,hown2⟩ | ⟨her,rfl⟩⟩
  ·obtain⟨n,rfl⟩: ∃n:Nat,s=(n:Int):=⟨s.toNat,by have:=hs (by first | rfl | trivial);omega⟩
   have hn:1≤n∧n≤4:=by have:=hs (by first | rfl | trivial);omega
   have hb02:=hb01.trans (hb2.mono hb01.size)
   have hw1:w.heap.size<w1.heap.size:=Nat.lt_of_lt_of_le hn0.lt hb1.size
   have m0:=(hb2.cell (p:=⟨w.heap.size,0,none⟩) hw1).trans k0
   have m1:=(hb2.cell (p:=⟨w.heap.size,1,none⟩) hw1).trans k1
   have m2:=(hb2.cell (p:=⟨w.heap.size,2,none⟩) hw1).trans k2
   obtain⟨ya,yc,rfl,_⟩:=hown2.cap
   have HY2:Aside (Els w2.heap.size w2 (.slice ya ys.length yc) ys):=EOwn.els hown2
   have HX2:Aside (Els w2.heap.size w2 (.slice xa xs.length xc) xs):=(HX1.out.below hb2 (Nat.le_refl _)).mono hb2.size
   generalize hR:amx sh back xs ys (List.range (n:Int).toNat)=R
   have HR:Hid (amx sh back xs ys ((List.range n).drop 0)=R):=by show _=_;rw[←hR];simp
   have HKQ:Hid _:=hR
   clear hR hs k0 k1 k2 hown2 HX1 hy0 hn0
   go_wp2_with fail
   refine(anr n hn sh back w2).mono ?_
   rintro _ w3 ⟨g,rfl,_,hlv,hb3⟩
   have HLV:Aside (am1 w3 g sh back):=aqy hlv
   have HX3:Aside (Els w3.heap.size w3 (.slice xa xs.length xc) xs):=(HX2.out.below hb3 (Nat.le_refl _)).mono hb3.size
   have HY3:Aside (Els w3.heap.size w3 (.slice ya ys.length yc) ys):=(HY2.out.below hb3 (Nat.le_refl _)).mono hb3.size
   have hb03:=hb02.trans (hb3.mono hb02.size)
   clear hlv m0 m1 m2 HX2 HY2 hb2 hb3
   go_wp2_with fail
   go_loopw [39] (fun iv wr=> ∃(i:Nat),i≤n∧iv=.int .i64 i∧Hid (amx sh back xs ys ((List.range n).drop i)=R)∧Below w3.heap.size w3 wr) (fun iv _=>n-(intOf iv).toNat)
   case atStart=>exact⟨0,by omega,rfl,HR,Below.refl _ _⟩
   case round=>
    clear HR
    obtain⟨i,hi1,rfl,HR,hbr⟩:=hrel
    by_cases hlt:i<n
    ·obtain⟨l0,l1,l2⟩:=avh (show am1 wr g sh back from aad HLV.out hbr) i (by omega)
     have hHR:=HR.out
     rw[ani hlt] at hHR
     have HRQ:Hid ((if arw (lev sh back i xs) (lev sh back i ys)=0 then amx sh back xs ys ((List.range n).drop (i+1)) else arw (lev sh back i xs) (lev sh back i ys))=R):=hHR
     have hrlx:=att sh back i xs
     have hrly:=att sh back i ys
     have hbkx:=az5 sh back i xs
     have hbky:=az5 sh back i ys
     generalize (decide (i=1)&&back)=bk at l2 hbkx hbky
     have hb4:=(Below.refl wr.heap.size wr).alloc (Nat.le_refl _) (.cells #[.func (.func (59+i)) #[] #[],.bool sh,.bool bk] 79)
     have hn4:=Blk.new wr 79 #[.func (.func (59+i)) #[] #[],.bool sh,.bool bk]
     clear hHR HR
     go_upto_region 10 with fail
     have hx4:=(HX3.out.below hbr (Nat.le_refl _)).below hb4 hbr.size
     have hy4:=(HY3.out.below hbr (Nat.le_refl _)).below hb4 hbr.size
     have hb14:=hbr.trans (hb4.mono hbr.size)
     have y0:(wr.alloc (.cells #[.func (.func (59+i)) #[] #[],.bool sh,.bool bk] 79)).cell? ⟨wr.heap.size,0,none⟩=some (.func (.func (59+i)) #[] #[]):=hn4.cell 0
     have y1:(wr.alloc (.cells #[.func (.func (59+i)) #[] #[],.bool sh,.bool bk] 79)).cell? ⟨wr.heap.size,1,none⟩=some (.bool sh):=hn4.cell 1
     have y2:(wr.alloc (.cells #[.func (.func (59+i)) #[] #[],.bool sh,.bool bk] 79)).cell? ⟨wr.heap.size,2,none⟩=some (.bool bk):=hn4.cell 2
     have hlt4:=hn4.lt
     generalize wr.alloc (.cells #[.func (.func (59+i)) #[] #[],.bool sh,.bool bk] 79)=W4 at*
     have HWX:Hid (∀W,Below W4.heap.size W4 W→Calls Tryz.prog 28 #[lvA (59+i) sh bk,.slice xa xs.length xc] W fun e w'=> ∃u,e=.returned u∧Uns w' u (lev sh back i xs)∧Below W4.heap.size W4 w'∧w'.cell? ⟨wr.heap.size,0,none⟩=some (.func (.func (59+i)) #[] #[])∧w'.cell? ⟨wr.heap.size,1,none⟩=some (.bool sh)∧w'.cell? ⟨wr.heap.size,2,none⟩=some (.bool bk)):=fun W hW=>by
      refine(ah3 i (by omega) sh bk hokx (hx4.below hW hb14.size) (Nat.le_trans hb14.size hW.size) (by omega)).mono ?_
      rintro _ w' ⟨u,rfl,hu,hb⟩
      rw[hbkx] at hu
      have hbb:=hW.trans (hb.mono hW.size)
      exact⟨u,rfl,hu.uns,hbb,(hbb.cell (p:=⟨wr.heap.size,0,none⟩) hlt4).trans y0,(hbb.cell (p:=⟨wr.heap.size,1,none⟩) hlt4).trans y1,(hbb.cell (p:=⟨wr.heap.size,2,none⟩) hlt4).trans y2⟩
     have HWY:Hid (∀W u5,Below W4.heap.size W4 W→Uns W u5 (lev sh back i xs)→Calls Tryz.prog 28 #[lvA (59+i) sh bk,.slice ya ys.length yc] W fun e w'=> ∃u,e=.returned u∧Uns w' u (lev sh back i ys)∧Uns w' u5 (lev sh back i xs)∧Below W4.heap.size W4 w'):=fun W u5 hW hu5=>by
      refine(ah3 i (by omega) sh bk hoky (hy4.below hW hb14.size) (Nat.le_trans hb14.size hW.size) (by omega)).mono ?_
      rintro _ w' ⟨u,rfl,hu,hb⟩
      rw[hbky] at hu
      exact⟨u,rfl,hu.uns,hu5.below hb,hW.trans (hb.mono hW.size)⟩
     have HCC:Hid (∀W u5 u6,Uns W u5 (lev sh back i xs)→Uns W u6 (lev sh back i ys)→Calls Tryz.prog 29 #[u5,u6] W fun e w'=>e=.returned (.int .i64 (arw (lev sh back i xs) (lev sh back i ys)))∧W=w'):=fun W u5 u6 h5 h6=>a4t u5 u6 _ _ W h5 h6 (by omega) (by omega)
     generalize lev sh back i xs=rx at*
     generalize lev sh back i ys=ry at*
     have hbz:Below W4.heap.size W4 W4.drew:=(Below.refl _ W4).drew
     clear hx4 hy4 hbkx hbky l0 l1 l2 hb4 hn4
     go_cut [15] from 43 to 49 (fun v wx=>v=.int .i64 (arw rx ry)∧Below W4.heap.size W4 wx)
     case first=>
      go_region_with (first | (go_at_call 28;with_reducible refine(HWX.out _ (by assumption)).mono ?_;rintro e w5 ⟨u5,rfl,hu5,hb5,z0,z1,z2⟩) | (go_at_call 28;with_reducible refine(HWY.out _ _ (by assumption) (by assumption)).mono ?_;rintro e w6 ⟨u6,rfl,hu6,hu7,hb6⟩) | (go_at_call 29;with_reducible refine(HCC.out _ _ _ (by assumption) (by assumption)).mono ?_;rintro e w7 ⟨rfl,rfl⟩))
      all_goals
       go_wp2_with fail
       go_meet
       exact⟨rfl,by assumption⟩
     case rest=>
      obtain⟨rfl,hb6⟩:=hcut
      have hb16:=hb14.trans (hb6.mono hb14.size)
      by_cases hz:arw rx ry=0
      ·have hzt:(arw rx ry !=0)=false:=by simp[hz]
       have HR2:Hid (amx sh back xs ys ((List.range n).drop (i+1))=R):=by show _=_;rw[←HRQ.out,if_pos hz]
       clear HRQ hz
       go_wp2_with fail
       go_roundw
       case rel=>exact⟨i+1,by omega,by simp,HR2,hb16⟩
       case measure=>simp only[intOf];omega
      ·have hzt:(arw rx ry !=0)=true:=by simp[hz]
       have hRR:R=arw rx ry:=by rw[←HRQ.out,if_neg hz]
       clear HRQ hz
       go_wp2_with fail
       go_ret2
       exact⟨hb03.trans (hb16.mono hb03.size),.inl ⟨rfl,rfl,by rw[HKQ.out,hRR];rfl⟩⟩
    ·have hRR:R=0:=by rw[←HR.out,List.drop_of_length_le (by simp;omega)];rfl
     clear HR
     go_wp2_with fail
     go_ret2
     exact⟨hb03.trans (hbr.mono hb03.size),.inl ⟨rfl,rfl,by rw[HKQ.out,hRR];rfl⟩⟩
  ·have hy1:(ey==0)=false:=by simpa using her
   have hy2:(ey !=0)=true:=by simpa using her
   go_wp2_with fail
   go_ret2
   exact⟨hb01.trans (hb2.mono hb01.size),.inr (.inr ⟨rfl,her,rfl⟩)⟩
 ·have hy1:(ex==0)=false:=by simpa using her
  have hy2:(ex !=0)=true:=by simpa using her
  go_wp2_with fail
  go_ret2
  exact⟨hb0.trans (hb1.mono hb0.size),.inr (.inl ⟨her,rfl⟩)⟩
def wm:List UInt8:=[48,51,48,49,59,50,51,48,59,10,48,48,69,49,59,48,59,48,48,54,49,32,48,51,48,49]
def we:List UInt8:=[48,48,54,49,59,91,46,49,48,48,48,46,48,48,50,48,46,48,48,48,50,93,10,48,48,52,49,59,91,46,49,48,48,48,46,48,48,50,48,46,48,48,48,56,93,10,48,48,54,50,59,91,46,49,48,48,49,46,48,48,50,48,46,48,48,48,50,93,10,48,48,50,48,59,91,42,48,50,48,57,46,48,48,50,48,46,48,48,48,50,93,10,48,51,48,49,59,91,46,48,48,48,48,46,48,48,50,52,46,48,48,48,50,93]
def am8 (L:List Mk)(E:List Ent)(X:List Int):List El:=aie E (abo (aaa L) (ach E) X)
def a7g (r:Except (Int×Int×Int) ((List Mk×(Int→List Int))×List Ent)):Bool:=
 match r with
 | .ok ((L,F),E)=>(aaa L 97==0)&&(aaa L 32==0)&&(aaa L 769==230)&&(aa4 F 225== [97,769])&&(aa4 F 32== [32])&&(aa4 F 769== [769])&&(aa4 F 97== [97])&&(aa4 F 65== [65])&&(aq4 2 false true (am8 L E [97,769])== [16,0,0,0,0,36,0,32,0,0])&&(aq4 4 true false (am8 L E [32,769])== [0,0,0,0,0,0,2,9,0,0])&&(amx false false (am8 L E [97]) (am8 L E [65]) [0,1,2]== -1)
 | _=>false
set_option maxRecDepth 100000 in
theorem a8p:a7g (adu wm we)=true:=by kernel_rfl
structure WOk (L:List Mk)(F:Int→List Int)(E:List Ent):Prop where
 load:adu wm we=.ok ((L,F),E)
 fa:ahx L F ([225].map fun p:Nat=>(p:Int)) [97,769]
 fb:ahx L F ([32,769].map fun p:Nat=>(p:Int)) [32,769]
 fc:ahx L F ([97].map fun p:Nat=>(p:Int)) [97]
 fd:ahx L F ([65].map fun p:Nat=>(p:Int)) [65]
 ka:aq4 2 false true (am8 L E [97,769])=[16,0,0,0,0,36,0,32,0,0]
 kb:aq4 4 true false (am8 L E [32,769])=[0,0,0,0,0,0,2,9,0,0]
 cc:amx false false (am8 L E [97]) (am8 L E [65]) [0,1,2]= -1
theorem a87: ∃L F E,WOk L F E:=by
 have h:=a8p
 cases hl:adu wm we with
 | error e=>rw[hl] at h;cases h
 | ok p=>
  obtain⟨⟨L,F⟩,E⟩:=p
  rw[hl] at h
  unfold a7g at h
  simp only[Bool.and_eq_true,beq_iff_eq] at h
  obtain⟨⟨⟨⟨⟨⟨⟨⟨⟨⟨h0,h1⟩,h2⟩,h3⟩,h4⟩,h5⟩,h6⟩,h7⟩,h8⟩,h9⟩,h10⟩:=h
  have f1:abv F [225]=[97,769]:=by simp[abv,h3]
  have f2:abv F [32,769]=[32,769]:=by simp[abv,h4,h5]
  have f3:abv F [97]=[97]:=by simp[abv,h6]
  have f4:abv F [65]=[65]:=by simp[abv,h7]
  have c1:CO (aaa L) [97,769]:=⟨fun _=>by rw[h0,h2];omega,trivial⟩
  have c2:CO (aaa L) [32,769]:=⟨fun _=>by rw[h1,h2];omega,trivial⟩
  refine⟨L,F,E,hl,?_,?_,?_,?_,h8,h9,h10⟩
  ·refine⟨c1,?_⟩;show Alike0 _ (abv F [225]) _;rw[f1];exact Alike0.refl _
  ·refine⟨c2,?_⟩;show Alike0 _ (abv F [32,769]) _;rw[f2];exact Alike0.refl _
  ·refine⟨trivial,?_⟩;show Alike0 _ (abv F [97]) _;rw[f3];exact Alike0.refl _
  ·refine⟨trivial,?_⟩;show Alike0 _ (abv F [65]) _;rw[f4];exact Alike0.refl _
theorem wel {b bd T:Nat}{L:List Mk}{F:Int→List Int}{E:List Ent}{w:World}(h:TbAt w b bd T L F E)(hg:Tabs w)(s:Int)(hs:InI s)(sh back:Bool)(txt:ByteArray)(ps:List Nat)(ht:txt.data.toList=adf ps++[])(hps: ∀p∈ps,ajh p){X:List Int}(hX:ahx L F (ps.map fun p:Nat=>(p:Int)) X)(hXp:X.length≤57*ps.length)(er:Int)(her:ai9 s sh txt.size []=er):
  ∀W,Below w.heap.size w W→Calls Tryz.prog 25 #[.pointer (some ⟨b,0,none⟩),ax8 s sh back,.string txt] W fun e w'=>aom (am8 L E X) er W e w':=fun W hW=>by
 have:=ain (h.below hW) (hg.own hW) s hs sh back txt ps [] ht hps (.inl rfl) hX hXp
 rw[her] at this
 exact this
theorem ahv {b bd T:Nat}{L:List Mk}{F:Int→List Int}{E:List Ent}{w:World}(h:TbAt w b bd T L F E)(X:List Int):(∀e∈am8 L E X,av6 e)∧(am8 L E X).length≤16*X.length:=by
 refine⟨av0 h.ok _,?_⟩
 have h1:=aro h.ok (abo (aaa L) (ach E) X)
 have h2:=aeh (cls:=aaa L) (fnd:=ach E) X
 unfold am8
 omega
set_option maxHeartbeats 4000000 in
set_option maxRecDepth 20000 in
theorem ar3 (w:World)(hg:Glob w)(htb:Tabs w):Calls Tryz.prog 10 #[] w fun e w'=>e=.returned (.bool true)∧Below w.heap.size w w':=by
 obtain⟨L,F,E,hA⟩:=a87
 have HA:Aside (WOk L F E):=hA
 go_enter Tryz.func10,Tryz.ntmps10
 go_wp2_with fail
 refine(aln ⟨wm.toArray⟩ ⟨we.toArray⟩ (by decide) (by decide) w hg).mono ?_
 rintro e w1 ⟨hb1,⟨why,which,line,he,_⟩ | ⟨L',F',E',b,bd,T,he,rfl,ht1⟩⟩
 ·rw[show adu (⟨wm.toArray⟩:ByteArray).data.toList (⟨we.toArray⟩:ByteArray).data.toList=.ok ((L,F),E) from hA.load] at he
  cases he
 ·rw[show adu (⟨wm.toArray⟩:ByteArray).data.toList (⟨we.toArray⟩:ByteArray).data.toList=.ok ((L,F),E) from hA.load] at he
  cases he
  have hI: ∀k:Int,0≤k→k≤10→InI k:=fun k h0 h1=>by unfold InI;omega
  have HT1:Aside (TbAt w1 b bd T L F E):=ht1
  have htb1:=htb.own hb1
  clear hA ht1 htb
  -- the first key
  go_wp2_with fail
  refine(apj (es:=am8 L E [97,769]) (er:=0) (ahv HT1.out _).1 (Nat.le_trans (ahv HT1.out _).2 (by decide)) (by omega) (wel HT1.out htb1 2 (hI 2 (by omega) (by omega)) false true ⟨#[195,161]⟩ [225] (by decide) (by intro p hp;simp at hp;subst hp;unfold ajh;omega) HA.out.fa (by decide) 0 (by decide))).mono ?_
  rintro e w2 ⟨hb2,⟨_,rfl⟩ | ⟨h,_⟩⟩
  ·rw[show ((2:Int).toNat)=2 from rfl,HA.out.ka]
   have HT2:Aside (TbAt w2 b bd T L F E):=HT1.out.below hb2
   have htb2:=htb1.own hb2
   have hb02:=hb1.trans (hb2.mono hb1.size)
   clear HT1 htb1
   -- the second key
   go_wp2_with fail
   refine(apj (es:=am8 L E [32,769]) (er:=0) (ahv HT2.out _).1 (Nat.le_trans (ahv HT2.out _).2 (by decide)) (by omega) (wel HT2.out htb2 4 (hI 4 (by omega) (by omega)) true false ⟨#[32,204,129]⟩ [32,769] (by decide) (by intro p hp;simp at hp;rcases hp with rfl | rfl<;>(unfold ajh;omega)) HA.out.fb (by decide) 0 (by decide))).mono ?_
   rintro e w3 ⟨hb3,⟨_,rfl⟩ | ⟨h,_⟩⟩
   ·rw[show ((4:Int).toNat)=4 from rfl,HA.out.kb]
    have HT3:Aside (TbAt w3 b bd T L F E):=HT2.out.below hb3
    have htb3:=htb2.own hb3
    have hb03:=hb02.trans (hb3.mono hb02.size)
    clear HT2 htb2
    -- how two stand
    go_wp2_with fail
    refine(aj6 (xs:=am8 L E [97]) (ys:=am8 L E [65]) (ex:=0) (ey:=0) (ahv HT3.out _).1 (ahv HT3.out _).1 (Nat.le_trans (ahv HT3.out _).2 (by decide)) (Nat.le_trans (ahv HT3.out _).2 (by decide)) (by omega) (wel HT3.out htb3 3 (hI 3 (by omega) (by omega)) false false ⟨#[97]⟩ [97] (by decide) (by intro p hp;simp at hp;subst hp;unfold ajh;omega) HA.out.fc (by decide) 0 (by decide)) (wel HT3.out htb3 3 (hI 3 (by omega) (by omega)) false false ⟨#[65]⟩ [65] (by decide) (by intro p hp;simp at hp;subst hp;unfold ajh;omega) HA.out.fd (by decide) 0 (by decide))).mono ?_
    rintro e w4 ⟨hb4,⟨_,_,rfl⟩ | ⟨h,_⟩ | ⟨_,h,_⟩⟩
    ·rw[show List.range ((3:Int).toNat)=[0,1,2] from rfl,HA.out.cc]
     have HT4:Aside (TbAt w4 b bd T L F E):=HT3.out.below hb4
     have htb4:=htb3.own hb4
     have hb04:=hb03.trans (hb4.mono hb03.size)
     clear HT3 htb3
     -- a collation that may not be
     go_wp2_with fail
     refine(apj (es:=am8 L E [97]) (er:=1) (ahv HT4.out _).1 (Nat.le_trans (ahv HT4.out _).2 (by decide)) (by omega) (wel HT4.out htb4 4 (hI 4 (by omega) (by omega)) false false ⟨#[97]⟩ [97] (by decide) (by intro p hp;simp at hp;subst hp;unfold ajh;omega) HA.out.fc (by decide) 1 (by decide))).mono ?_
     rintro e w5 ⟨hb5,⟨h,_⟩ | ⟨_,rfl⟩⟩
     ·exact absurd h (by decide)
     ·have hb05:=hb04.trans (hb5.mono hb04.size)
      have t1:=ar0 [16,0,0,0,0,36,0,32,0,0]
      have t2:=ar0 [0,0,0,0,0,0,2,9,0,0]
      clear HT4 htb4
      go_wp2
      go_ret
      exact⟨rfl,hb05⟩
    ·exact absurd rfl h
    ·exact absurd rfl h
   ·exact absurd rfl h
  ·exact absurd rfl h
def a2w (l:List PM)(p:Int):Option PM:=l.find? (fun m=>m.point==p)
def asf (l:List PM)(p:Int):Int:=((a2w l p).map PM.cls).getD 0
def aal (l:List PM)(p:Int):List Int:=((a2w l p).map PM.parts).getD []
theorem azc {l:List PM}(h:(l.map PM.point).Pairwise (· < ·)){k:Nat}(hk:k<l.length){p:Int}(hp:(l[k]).point=p):a2w l p=some l[k]:=by
 unfold a2w
 rw[List.find?_eq_some_iff_getElem]
 refine⟨by simpa using hp,k,hk,rfl,fun j hj=> ?_⟩
 have:=ag0 h (by omega) hk hj
 simp
 omega
theorem azb {l:List PM}{p:Int}(h: ∀i (h:i<l.length),(l[i]).point≠p):a2w l p=none:=by
 unfold a2w
 rw[List.find?_eq_none]
 intro x hx
 obtain⟨i,hi,rfl⟩:=List.mem_iff_getElem.1 hx
 simpa using h i hi
theorem akc {tmps:Array Value}{w:World}{h:Nat}{x y z:Value}(hb:Blk w h 153 #[x,y,z])(t2:tmps[4]?.getD undef=.pointer (some ⟨h,0,none⟩)):
  (results Tryz.f104 tmps).run Tryz.prog w=.ok (.agg #[x,y,z]) w:=by
 have c0:w.cell? ⟨h,0,none⟩=some x:=hb.cell 0
 have c1:w.cell? ⟨h,1,none⟩=some y:=hb.cell 1
 have c2:w.cell? ⟨h,2,none⟩=some z:=hb.cell 2
 simp[results,Tryz.results104,go_sem,t2,c0,c1,c2]
def ar9 (l:List PM)(p:Int)(n₀:Nat)(w:World)(e:Ending)(w':World):Prop:=Below w.heap.size w w'∧ ∃pa pk pc,e=.returned (.agg #[.int .i64 p,.int .i64 (asf l p),.slice pa pk pc])∧Ints n₀ w' (.slice pa pk pc) (aal l p)
set_option maxHeartbeats 4000000 in
set_option maxRecDepth 20000 in
theorem ah6 (l:List PM)(hrise:(l.map PM.point).Pairwise (· < ·))(hll:l.length≤1048576)(v:Value)(p:Int)(n₀:Nat)(w:World)(hn₀:n₀≤w.heap.size)(hin:MIn n₀ w v l):
  Calls Tryz.prog 104 #[.agg #[v],.int .i64 p] w fun e w'=>ar9 l p n₀ w e w':=by
 obtain⟨a,cap,rfl⟩:=hin.val
 have hb0:=((Below.refl w.heap.size w).alloc (Nat.le_refl _) (.cells #[.slice a l.length cap] 62)).alloc (by simp) (.cells #[.int .i64 0,.int .i64 0,.slice none 0 0] 153)
 have hn1:Blk ((w.alloc (.cells #[.slice a l.length cap] 62)).alloc (.cells #[.int .i64 0,.int .i64 0,.slice none 0 0] 153)) w.heap.size 62 #[.slice a l.length cap]:=(Below.heap_alloc _ _ _ (by simp)).trans (Blk.new w 62 _)
 have hn2:Blk ((w.alloc (.cells #[.slice a l.length cap] 62)).alloc (.cells #[.int .i64 0,.int .i64 0,.slice none 0 0] 153)) (w.heap.size+1) 153 #[.int .i64 0,.int .i64 0,.slice none 0 0]:=by
  have:=Blk.new (w.alloc (.cells #[.slice a l.length cap] 62)) 153 #[.int .i64 0,.int .i64 0,.slice none 0 0]
  simpa using this
 have hin0:=hin.below hb0 hn₀
 go_enter Tryz.func104,Tryz.ntmps104
 go_upto_region 1 with fail
 generalize (w.alloc (.cells #[.slice a l.length cap] 62)).alloc (.cells #[.int .i64 0,.int .i64 0,.slice none 0 0] 153)=W at hb0 hn1 hn2 hin0⊢
 have e0:W.cell? ⟨w.heap.size,0,none⟩=some (.slice a l.length cap):=hn1.cell 0
 go_wp2_with fail
 refine(ag3 l hrise hll _ p n₀ W (Nat.le_trans hn₀ hb0.size) hin0).mono ?_
 rintro e w1 ⟨k,bb,hpa,rfl,hb,hb1⟩
 have hr1:=hn2.below hb1 hn2.lt
 have hd1:=hn1.below hb1 hn1.lt
 have e1:w1.cell? ⟨w.heap.size,0,none⟩=some (.slice a l.length cap):=hd1.cell 0
 have hbw:=hb0.trans (hb1.mono hb0.size)
 have hin1:=hin0.below hb1 (Nat.le_trans hn₀ hb0.size)
 obtain⟨⟨r0,r1,r2⟩,rz0,rz1,rz2⟩:=abm hr1
 clear e0 hn1 hn2 hin0 hpa
 rcases hb with ⟨rfl,hk,hp⟩ | ⟨rfl,hno⟩
 ·have HPM:Hid (a2w l p=some l[k]):=azc hrise hk hp
  obtain⟨b,off,hao,pa,pk,pc,c0,c1,c2,hpi⟩:=hin1.at hk
  subst hao
  rw[hp] at c0
  have HC:Hid (asf l p=(l[k]).cls∧aal l p=(l[k]).parts):=by
   show _∧_
   unfold asf aal
   rw[HPM.out]
   exact⟨rfl,rfl⟩
  clear HPM hp
  generalize l[k]=mm at c0 c1 c2 hpi HC
  go_wp2_with fail
  refine bodyPost_ret (akc (hr1.set3 _ _ _) rfl) rfl ?_
  refine⟨hbw.trans (abd (show w.heap.size≤w.heap.size+1 by omega)),pa,pk,pc,by rw[HC.out.1],?_⟩
  rw[HC.out.2]
  exact hpi.below (abd (show w.heap.size≤w.heap.size+1 by omega)) hn₀
 ·have HPM:=azb hno
  have HC:Hid (asf l p=0∧aal l p=[]):=by
   show _∧_
   unfold asf aal
   rw[HPM]
   exact⟨rfl,rfl⟩
  clear HPM hno
  go_wp2_with fail
  refine bodyPost_ret (akc (hr1.set3 _ _ _) rfl) rfl ?_
  refine⟨hbw.trans (abd (show w.heap.size≤w.heap.size+1 by omega)),none,0,0,by rw[HC.out.1],?_⟩
  rw[HC.out.2]
  exact .inl ⟨_,_,rfl,rfl⟩
end Go.Proofs.YtfhpgmlfgjfknaaGreatDoor
namespace Go.Vf
def whF (G:Int→List Int)(lim:Nat):Nat→List Int→Int→List Int
 | 0,out,p=>if lim<out.length then out else out++[p]
 | k+1,out,p=>if lim<out.length then out else if G p=[] then out++[p] else (G p).foldl (fun o q=>whF G lim k o q) out
theorem axp (G:Int→List Int)(lim k:Nat)(h: ∀out p,lim<out.length→whF G lim k out p=out): ∀(l:List Int) (out:List Int),lim<out.length→l.foldl (fun o q=>whF G lim k o q) out=out:=by
 intro l
 induction l with
 | nil=>intro out _;rfl
 | cons a r ih=>intro out ho;rw[List.foldl_cons,h out a ho];exact ih out ho
theorem aoo (G:Int→List Int)(lim k:Nat)(out:List Int)(p:Int)(h:lim<out.length):whF G lim k out p=out:=by
 cases k<;>simp[whF,h]
theorem auv (G:Int→List Int)(lim:Nat): ∀(k:Nat) (out:List Int) (p:Int),out.length≤lim→whF G lim k out p=(out++wh G k p).take (lim+1):=by
 intro k
 induction k with
 | zero=>
  intro out p h
  rw[whF,if_neg (by omega),wh,List.take_of_length_le (by simp;omega)]
 | succ k ih=>
  intro out p h
  rw[whF,if_neg (by omega),wh]
  split
  ·rw[List.take_of_length_le (by simp;omega)]
  ·have key: ∀(l:List Int) (out:List Int),out.length≤lim→l.foldl (fun o q=>whF G lim k o q) out=(out++l.flatMap (wh G k)).take (lim+1):=by
    intro l
    induction l with
    | nil=>intro out ho;simp;rw[List.take_of_length_le (by omega)]
    | cons a r ihr=>
     intro out ho
     rw[List.foldl_cons,ih out a ho,List.flatMap_cons,←List.append_assoc]
     by_cases hl:(out++wh G k a).length≤lim
     ·rw[List.take_of_length_le (by omega),ihr _ hl]
     ·rw[axp G lim k (fun o q ho=>aoo G lim k o q ho) r _ (by rw[List.length_take];omega),List.take_append_of_le_length (l₁:=out++wh G k a) (by omega)]
   exact key (G p) out h
theorem agy (G:Int→List Int)(lim:Nat): ∀(k:Nat) (out:List Int) (p:Int),out.length≤(whF G lim k out p).length:=by
 intro k out p
 by_cases h:out.length≤lim
 ·rw[auv G lim k out p h,List.length_take,List.length_append]
  omega
 ·rw[aoo G lim k out p (by omega)]
  exact Nat.le_refl _
def Dep (G:Int→List Int):Nat→Int→Prop
 | 0,p=>G p=[]
 | k+1,p=> ∀q∈G p,Dep G k q
theorem Dep.leaf {G:Int→List Int}{p:Int}(h:G p=[])(k:Nat):Dep G k p:=by
 cases k with
 | zero=>exact h
 | succ k=>intro q hq;rw[h] at hq;simp at hq
theorem Dep.of_topo {G:Int→List Int}{ord:List Int}(ht:a5n G ord): ∀(n:Nat) (pre:List Int) (x:Int) (post:List Int),pre.length≤n→ord=pre++x::post→Dep G n x:=by
 intro n
 induction n with
 | zero=>
  intro pre x post hn hs
  have hp:pre=[]:=List.length_eq_zero_iff.1 (by omega)
  cases hG:G x with
  | nil=>exact hG
  | cons a r=>have:=ht pre x post hs a (by rw[hG];simp);rw[hp] at this;simp at this
 | succ n ih=>
  intro pre x post hn hs q hq
  obtain⟨p1,p2,e⟩:=List.append_of_mem (ht pre x post hs q hq)
  have hl:p1.length+1≤pre.length:=by rw[e];simp
  exact ih p1 q (p2++x::post) (by omega) (by rw[hs,e];simp)
end Go.Vf
namespace Go.Proofs.YtfhpgmlfgjfknaaGreatDoor
open Go.RowKit Go.Vf Go.Maps
structure Grew (w:World)(v:Value)(w':World)(v':Value):Prop where
 by_:w.grownBy w' v.ownBlock
 at_:v'.ownBlock=v.ownBlock∨ ∃g,v'.ownBlock=some g∧w.heap.size≤g
theorem Grew.trans {w w1 w2:World}{v v1 v2:Value}(h:Grew w v w1 v1)(k:Grew w1 v1 w2 v2):Grew w v w2 v2:=by
 refine⟨⟨k.by_.os.trans h.by_.os,k.by_.tape.trans h.by_.tape,k.by_.output.trans h.by_.output,Nat.le_trans h.by_.size k.by_.size,fun j hj hne=> ?_⟩,?_⟩
 ·refine(k.by_.block j (Nat.lt_of_lt_of_le hj h.by_.size) ?_).trans (h.by_.block j hj hne)
  rcases h.at_ with e | ⟨g,e,hg⟩
  ·rw[e];exact hne
  ·rw[e];intro e2;cases e2;omega
 ·rcases k.at_ with e | ⟨g,e,hg⟩
  ·rw[e];exact h.at_
  ·exact .inr ⟨g,e,Nat.le_trans h.by_.size hg⟩
theorem Grew.of_below {w w':World}(v:Value)(h:Below w.heap.size w w'):Grew w v w' v:=⟨⟨h.os,h.tape,h.output,h.size,fun j hj _=>h.block j hj⟩,.inl rfl⟩
theorem Grew.below {w w':World}{v v':Value}{base:Nat}(h:Grew w v w' v')(hb:base≤w.heap.size)(hv: ∀j,v.ownBlock=some j→base≤j):Below base w w':=(Below.refl base w).grown h.by_ hb hv
theorem Ints.back {n₀ n:Nat}{A B:World}(h:Below n A B)(hn:n₀≤n){v:Value}{zs:List Int}:Ints n₀ B v zs→Ints n₀ A v zs
 | .inl e=>.inl e
 | .inr ⟨b,off,cap,e,hb,hc⟩=>.inr ⟨b,off,cap,e,hb,fun j hj=>(h.cell (p:=⟨b,off+j,none⟩) (show b<n by omega)).symm.trans (hc j hj)⟩
theorem at9 (G:Int→List Int)(lim k:Nat): ∀(l:List Int) (o:List Int),o.length≤(l.foldl (fun o q=>whF G lim k o q) o).length:=by
 intro l
 induction l with
 | nil=>intro o;exact Nat.le_refl _
 | cons a r ih=>intro o;rw[List.foldl_cons];exact Nat.le_trans (agy G lim k o a) (ih _)
theorem a02 (a b c:Value)(w:World):(Instr.field 153 (.agg #[a,b,c]) 2).run Tryz.prog w=.ok c w:=by kernel_rfl
theorem a03 (a b c:Value)(w:World):(Instr.field 153 (.agg #[a,b,c]) 1).run Tryz.prog w=.ok b w:=by kernel_rfl
def ar7 (base:Nat)(v:Value)(res:List Int)(w:World)(e:Ending)(w':World):Prop:= ∃a n c,e=.returned (.slice a n c)∧IOwn w' base (.slice a n c) res∧Grew w v w' (.slice a n c)
def ajf (l:List PM)(da:Option Addr)(dn dc n₀ lim k:Nat)(p:Int):Prop:= ∀(out:List Int) (v:Value) (base:Nat) (w:World),(whF (aal l) lim k out p).length≤1000000→n₀≤base→base≤w.heap.size→MIn n₀ w (.slice da dn dc) l→IOwn w base v out→
 Calls Tryz.prog 98 #[.agg #[.slice da dn dc],v,.int .i64 p,.int .i64 (lim:Int)] w fun e w'=>ar7 base v (whF (aal l) lim k out p) w e w'
set_option maxHeartbeats 4000000 in
set_option maxRecDepth 20000 in
theorem am6 (l:List PM)(hrise:(l.map PM.point).Pairwise (· < ·))(hll:l.length≤1048576)(hpl: ∀p,(aal l p).length≤131072)(da:Option Addr)(dn dc n₀ lim:Nat)(_hlim:lim≤1073741824)(k:Nat)(p:Int)(hsy:ab7 p=false)(hdep': ∀q∈aal l p,ajf l da dn dc n₀ lim k q):ajf l da dn dc n₀ lim (k+1) p:=by
 intro out v base w hlen hn₀ hbase hin hown
 obtain⟨av,cv,rfl⟩:=hown.val
 have hb0:=(Below.refl w.heap.size w).alloc (Nat.le_refl _) (.cells #[.slice da dn dc] 62)
 have hbn:=Blk.new w 62 #[.slice da dn dc]
 have hgr:=Nat.le_trans (agy (aal l) lim (k+1) out p) hlen
 by_cases hlong:lim<out.length
 ·have HR:Hid (whF (aal l) lim (k+1) out p=out):=aoo _ _ _ _ _ hlong
  have hown0:IOwn (w.alloc (.cells #[.slice da dn dc] 62)) base (.slice av out.length cv) out:=World.ownsRow.alloc hown _
  go_enter Tryz.func98,Tryz.ntmps98
  go_wp2_with fail
  go_ret
  exact⟨_,_,_,rfl,by rw[HR.out];exact hown0,Grew.of_below _ hb0⟩
 ·have hS:=agz p (w.alloc (.cells #[.slice da dn dc] 62))
  rw[hsy] at hS
  have hM:=ah6 l hrise hll (.slice da dn dc) p n₀ (w.alloc (.cells #[.slice da dn dc] 62)) (by simp;omega) (hin.below hb0 (by omega))
  have HR:Hid (whF (aal l) lim (k+1) out p=if aal l p=[] then out++[p] else (aal l p).foldl (fun o q=>whF (aal l) lim k o q) out):=by
   show _=_
   rw[whF,if_neg hlong]
  obtain⟨R,hR⟩: ∃R,whF (aal l) lim (k+1) out p=R:=⟨_,rfl⟩
  rw[hR] at HR hlen⊢
  clear hR
  have hown0:IOwn (w.alloc (.cells #[.slice da dn dc] 62)) base (.slice av out.length cv) out:=World.ownsRow.alloc hown _
  have e0:(w.alloc (.cells #[.slice da dn dc] 62)).cell? ⟨w.heap.size,0,none⟩=some (.slice da dn dc):=hbn.cell 0
  go_enter Tryz.func98,Tryz.ntmps98
  go_wp2_with fail
  refine hS.mono ?_
  rintro e w1 ⟨rfl,rfl⟩
  go_wp2_with fail
  refine hM.mono ?_
  rintro e w2 ⟨hb2,pa,pk,pc,rfl,hpi⟩
  have hfd:=a02 (.int .i64 p) (.int .i64 (asf l p)) (.slice pa pk pc) w2
  have hb02:Below w.heap.size w w2:=hb0.trans (hb2.mono hb0.size)
  have hown2:IOwn w2 base (.slice av out.length cv) out:=aad hown0 hb2
  have hbn2:=hbn.below hb2 hbn.lt
  have hin2:=hin.below hb02 (by omega)
  have hpk:pk=(aal l p).length:=by obtain⟨_,_,e⟩:=hpi.val;cases e;rfl
  have HPK:Hid (pk=(aal l p).length):=hpk
  have hpl':=hpl p
  have hpkl:pk≤131072:=by omega
  clear hpk hS hM hown0 e0 hbn hb0 hb2
  generalize aal l p=ps at hpi hdep' HR HPK
  have hs2:base≤w2.heap.size:=Nat.le_trans hbase hb02.size
  by_cases h0:pk=0
  ·have hps:ps=[]:=List.eq_nil_of_length_eq_zero (by rw[←HPK.out];exact h0)
   have HR2:Hid (R=out++[p]):=by show _=_;rw[HR.out,if_pos hps]
   have hpk0:((pk:Int)==0)=true:=by simp[h0]
   have hown2':IOwn (w2.alloc (.cells #[.int .i64 p] 3)) base (.slice av out.length cv) out:=World.ownsRow.alloc hown2 _
   have HN2:Hid (∀i,i<([p]:List Int).length→(w2.alloc (.cells #[.int .i64 p] 3)).cell? ((⟨w2.heap.size,0,none⟩:Addr).add i)=some (.int .i64 (([p]:List Int)[i]?.getD 0))):=fun i hi=>by
    have:i=0:=by simp at hi;omega
    subst this
    exact(Blk.new w2 3 #[.int .i64 p]).cell 0
   have hsum:out.length+([p]:List Int).length≤1099511627776:=by simp;omega
   have hsz2:base≤(w2.alloc (.cells #[.int .i64 p] 3)).heap.size:=by simp;omega
   clear h0
   go_wp2_with (first | (at_builtin;refine aao rfl _ _ rfl base _ out rfl hown2' [p] ⟨w2.heap.size,0,none⟩ _ rfl HN2.out hsum hsz2 ?_;intro a7 c7 w7 hown7 hgr7 hnil7 hat7))
   go_ret
   refine⟨a7,_,c7,rfl,by rw[HR2.out];exact hown7,(Grew.of_below _ (hb02.alloc hb02.size _)).trans ⟨hgr7,?_⟩⟩
   rcases hat7 with e | e
   ·exact .inl e
   ·exact .inr ⟨_,e,Nat.le_refl _⟩
  ·have hps:ps≠ []:=fun e=>h0 (by rw[HPK.out,e];rfl)
   have HR2:Hid (R=ps.foldl (fun o q=>whF (aal l) lim k o q) out):=by show _=_;rw[HR.out,if_neg hps]
   have hpk0:((pk:Int)==0)=false:=by simp[h0]
   have HBW:Hid (w.heap.size<w2.heap.size):=hbn2.lt
   clear HR
   go_wp2_with fail
   go_loopw [1,11] (fun x i wr=> ∃(j:Nat) (o:List Int) (oa:Option Addr) (oc:Nat),j≤pk∧i=.int .i64 j∧x=.slice oa o.length oc∧IOwn wr base (.slice oa o.length oc) o∧Hid (R=(ps.drop j).foldl (fun o q=>whF (aal l) lim k o q) o)∧Grew w (.slice av out.length cv) wr (.slice oa o.length oc)∧Blk wr w.heap.size 62 #[.slice da dn dc]∧base≤wr.heap.size) (fun _ i _=>pk-(intOf i).toNat)
   case atStart=>exact⟨0,out,av,cv,by omega,rfl,rfl,hown2,by simpa using HR2,Grew.of_below _ hb02,hbn2,hs2⟩
   case round=>
    obtain⟨j,o,oa,oc,hj,rfl,rfl,hownr,HJ,hgrew,hbox,hszr⟩:=hrel
    have hbelr:Below base w wr:=hgrew.below hbase (fun i hi=>(aan hown hi).1)
    by_cases hlt:j<pk
    ·have hltp:j<ps.length:=by rw[←HPK.out];exact hlt
     have hpr:Ints n₀ wr (.slice pa pk pc) ps:=(hpi.back hb02 (by omega)).below hbelr hn₀
     obtain⟨b,off,hao,hnk,hblt,hcell⟩:=hpr.cell hps
     subst hao
     have hcj:=hcell j hltp
     rw[show ps[j]?.getD 0=ps[j] by simp[List.getElem?_eq_getElem hltp]] at hcj
     have hd:ps.drop j=ps[j]::ps.drop (j+1):=List.drop_eq_getElem_cons hltp
     have HJ2:Hid (R=(ps.drop (j+1)).foldl (fun o q=>whF (aal l) lim k o q) (whF (aal l) lim k o ps[j])):=by
      show _=_
      rw[HJ.out,hd,List.foldl_cons]
     have hqd:=hdep' _ (List.getElem_mem hltp)
     generalize ps[j]=q at hcj HJ2 hqd
     have hql:(whF (aal l) lim k o q).length≤1000000:=by
      have:=at9 (aal l) lim k (ps.drop (j+1)) (whF (aal l) lim k o q)
      rw[←HJ2.out] at this
      omega
     have HIH:Hid (Calls Tryz.prog 98 #[.agg #[.slice da dn dc],.slice oa o.length oc,.int .i64 q,.int .i64 (lim:Int)] wr.drew fun e w'=>ar7 base (.slice oa o.length oc) (whF (aal l) lim k o q) wr.drew e w'):=hqd o (.slice oa o.length oc) base wr.drew hql hn₀ hszr ((hin.below hbelr hn₀).below ((Below.refl base wr).drew) hn₀) hownr
     have s0:wr.drew.cell? ⟨w.heap.size,0,none⟩=some (.slice da dn dc)∧wr.drew.cell? ⟨b,off+j,none⟩=some (.int .i64 q):=⟨hbox.cell 0,hcj⟩
     have hbb:b<base:=by omega
     have HKX:Hid (∀(x:World) (v':Value),Grew wr.drew (.slice oa o.length oc) x v'→Blk x w.heap.size 62 #[.slice da dn dc]∧x.cell? ⟨b,off+j,none⟩=some (.int .i64 q)):=fun x v' hx=>⟨(hx.by_.block w.heap.size hbox.lt (aa9 hownr hbox (by decide))).trans hbox,((hx.below (base:=base) hszr (fun i hi=>(aan hownr hi).1)).cell (p:=⟨b,off+j,none⟩) hbb).trans hcj⟩
     have hgd:Grew wr (.slice oa o.length oc) wr.drew (.slice oa o.length oc):=Grew.of_below _ ((Below.refl _ wr).drew)
     clear hcell hnk hpr hd HJ hcj
     go_upto_region 16 with fail
     go_region_held (fun x=>x.cell? ⟨w.heap.size,0,none⟩=some (.slice da dn dc)∧x.cell? ⟨b,off+j,none⟩=some (.int .i64 q)) (first | exact s0 | assumption | exact⟨hbox8.cell 0,hcell8⟩) ((go_at_call 98;refine HIH.out.mono ?_;rintro e w8 ⟨a8,n8,c8,rfl,hown8,hg8⟩;obtain⟨hbox8,hcell8⟩:=HKX.out w8 _ hg8))
     have hs8:base≤w8.heap.size:=Nat.le_trans hszr hg8.by_.size
     have HG8:Hid (Grew w (.slice av out.length cv) w8 (.slice a8 n8 c8)):=(hgrew.trans hgd).trans hg8
     have HO8:Hid (IOwn w8 base (.slice a8 n8 c8) (whF (aal l) lim k o q)):=hown8
     have HB8:Hid (Blk w8 w.heap.size 62 #[.slice da dn dc]):=hbox8
     clear hg8 hown8 hbox8 hcell8 HKX HIH s0
     go_wp2_with fail
     go_roundw
     case rel=>
      have hn8:n8=(whF (aal l) lim k o q).length:=by obtain⟨_,_,e⟩:=HO8.out.val;cases e;rfl
      subst hn8
      exact⟨j+1,whF (aal l) lim k o q,a8,c8,by omega,by go_num,rfl,HO8.out,HJ2,HG8.out,HB8.out,hs8⟩
     case measure=>simp only[intOf];omega
    ·have HE:Hid (R=o):=by
      show _=_
      rw[HJ.out,List.drop_of_length_le (by rw[←HPK.out];omega)]
      try rfl
     go_wp2_with fail
     go_ret
     exact⟨_,_,_,rfl,by rw[HE.out];exact hownr,hgrew⟩
theorem aj8 (l:List PM)(hrise:(l.map PM.point).Pairwise (· < ·))(hll:l.length≤1048576)(hns: ∀p,∀q∈aal l p,ab7 q=false)(hpl: ∀p,(aal l p).length≤131072)(da:Option Addr)(dn dc n₀ lim:Nat)(hlim:lim≤1073741824):
  ∀(k:Nat) (p:Int),ab7 p=false→Dep (aal l) k p→ajf l da dn dc n₀ lim k p:=by
 intro k
 induction k with
 | zero=>
  intro p hsy hd
  have h1:=am6 l hrise hll hpl da dn dc n₀ lim hlim 0 p hsy (fun q hq=>by rw[show aal l p=[] from hd] at hq;simp at hq)
  intro out v base w
  have e:whF (aal l) lim 1 out p=whF (aal l) lim 0 out p:=by simp[whF,show aal l p=[] from hd]
  have h2:=h1 out v base w
  rwa [e] at h2
 | succ k ih=>
  intro p hsy hd
  exact am6 l hrise hll hpl da dn dc n₀ lim hlim k p hsy (fun q hq=>ih q (hns p q hq) (hd q hq))
end Go.Proofs.YtfhpgmlfgjfknaaGreatDoor
