/- What the statements' own awake does (a contract; nothing is claimed here). -/
import Derived.Test.YtpfkoldfbecdlaaGreatDoorJ35
import Derived.Test.YtpfkoldfbecdlaaGreatDoorJ33
namespace Go.Proofs.YtpfkoldfbecdlaaGreatDoor
open Go.RowKit Go.Vf Go.Maps
def wm:List UInt8:=[48,51,48,49,59,50,51,48,59,10,48,48,69,49,59,48,59,48,48,54,49,32,48,51,48,49]
def we:List UInt8:=[48,48,54,49,59,91,46,49,48,48,48,46,48,48,50,48,46,48,48,48,50,93,10,48,48,52,49,59,91,46,49,48,48,48,46,48,48,50,48,46,48,48,48,56,93,10,48,48,54,50,59,91,46,49,48,48,49,46,48,48,50,48,46,48,48,48,50,93,10,48,48,50,48,59,91,42,48,50,48,57,46,48,48,50,48,46,48,48,48,50,93,10,48,51,48,49,59,91,46,48,48,48,48,46,48,48,50,52,46,48,48,48,50,93]
def wEls (L:List Mk)(E:List Ent)(X:List Int):List El:=ad2 E (aax (aaa L) (aaw E) X)
def wTest (r:Except (Int×Int×Int) ((List Mk×(Int→List Int))×List Ent)):Bool:=
 match r with
 | .ok ((L,F),E)=>(aaa L 97==0)&&(aaa L 32==0)&&(aaa L 769==230)&&(aao F 225== [97,769])&&(aao F 32== [32])&&(aao F 769== [769])&&(aao F 97== [97])&&(aao F 65== [65])&&(keyLv 2 false true (wEls L E [97,769])== [16,0,0,0,0,36,0,32,0,0])&&(keyLv 4 true false (wEls L E [32,769])== [0,0,0,0,0,0,2,9,0,0])&&(af3 false false (wEls L E [97]) (wEls L E [65]) [0,1,2]== -1)
 | _=>false
set_option maxRecDepth 100000 in
theorem w_one:wTest (aeo wm we)=true:=by kernel_rfl
structure WOk (L:List Mk)(F:Int→List Int)(E:List Ent):Prop where
 load:aeo wm we=.ok ((L,F),E)
 fa:acq L F ([225].map fun p:Nat=>(p:Int)) [97,769]
 fb:acq L F ([32,769].map fun p:Nat=>(p:Int)) [32,769]
 fc:acq L F ([97].map fun p:Nat=>(p:Int)) [97]
 fd:acq L F ([65].map fun p:Nat=>(p:Int)) [65]
 ka:keyLv 2 false true (wEls L E [97,769])=[16,0,0,0,0,36,0,32,0,0]
 kb:keyLv 4 true false (wEls L E [32,769])=[0,0,0,0,0,0,2,9,0,0]
 cc:af3 false false (wEls L E [97]) (wEls L E [65]) [0,1,2]= -1
theorem w_ok: ∃L F E,WOk L F E:=by
 have h:=w_one
 cases hl:aeo wm we with
 | error e=>rw[hl] at h;cases h
 | ok p=>
  obtain⟨⟨L,F⟩,E⟩:=p
  rw[hl] at h
  unfold wTest at h
  simp only[Bool.and_eq_true,beq_iff_eq] at h
  obtain⟨⟨⟨⟨⟨⟨⟨⟨⟨⟨h0,h1⟩,h2⟩,h3⟩,h4⟩,h5⟩,h6⟩,h7⟩,h8⟩,h9⟩,h10⟩:=h
  have f1:aa3 F [225]=[97,769]:=by simp[aa3,h3]
  have f2:aa3 F [32,769]=[32,769]:=by simp[aa3,h4,h5]
  have f3:aa3 F [97]=[97]:=by simp[aa3,h6]
  have f4:aa3 F [65]=[65]:=by simp[aa3,h7]
  have c1:CO (aaa L) [97,769]:=⟨fun _=>by rw[h0,h2];omega,trivial⟩
  have c2:CO (aaa L) [32,769]:=⟨fun _=>by rw[h1,h2];omega,trivial⟩
  refine⟨L,F,E,hl,?_,?_,?_,?_,h8,h9,h10⟩
  ·refine⟨c1,?_⟩;show Alike0 _ (aa3 F [225]) _;rw[f1];exact Alike0.refl _
  ·refine⟨c2,?_⟩;show Alike0 _ (aa3 F [32,769]) _;rw[f2];exact Alike0.refl _
  ·refine⟨trivial,?_⟩;show Alike0 _ (aa3 F [97]) _;rw[f3];exact Alike0.refl _
  ·refine⟨trivial,?_⟩;show Alike0 _ (aa3 F [65]) _;rw[f4];exact Alike0.refl _
theorem wel {b bd T:Nat}{L:List Mk}{F:Int→List Int}{E:List Ent}{w:World}(h:TbAt w b bd T L F E)(hg:Tabs w)(s:Int)(hs:InI s)(sh back:Bool)(txt:ByteArray)(ps:List Nat)(ht:txt.data.toList=ac5 ps++[])(hps: ∀p∈ps,ag9 p){X:List Int}(hX:acq L F (ps.map fun p:Nat=>(p:Int)) X)(hXp:X.length≤57*ps.length)(er:Int)(her:ad5 s sh txt.size []=er):
  ∀W,Below w.heap.size w W→Calls Tryz.prog 28 #[.pointer (some ⟨b,0,none⟩),ag8 s sh back,.string txt] W fun e w'=>ElPost (wEls L E X) er W e w':=fun W hW=>by
 have:=welements_any (h.below hW) (hg.own hW) s hs sh back txt ps [] ht hps (.inl rfl) hX hXp
 rw[her] at this
 exact this
theorem ag4 {b bd T:Nat}{L:List Mk}{F:Int→List Int}{E:List Ent}{w:World}(h:TbAt w b bd T L F E)(X:List Int):(∀e∈wEls L E X,WtOk e)∧(wEls L E X).length≤16*X.length:=by
 refine⟨elsOf_ok h.ok _,?_⟩
 have h1:=elsOf_len h.ok (aax (aaa L) (aaw E) X)
 have h2:=abz (cls:=aaa L) (fnd:=aaw E) X
 unfold wEls
 omega
set_option maxHeartbeats 4000000 in
set_option maxRecDepth 20000 in
theorem awake_any (w:World)(hg:Glob w)(htb:Tabs w):Calls Tryz.prog 7 #[] w fun e w'=>e=.returned (.bool true)∧Below w.heap.size w w':=by
 obtain⟨L,F,E,hA⟩:=w_ok
 have HA:Aside (WOk L F E):=hA
 go_enter Tryz.func7,Tryz.ntmps7
 go_wp2_with fail
 refine(loadW_any ⟨wm.toArray⟩ ⟨we.toArray⟩ (by decide) (by decide) w hg).mono ?_
 rintro e w1 ⟨hb1,⟨why,which,line,he,_⟩ | ⟨L',F',E',b,bd,T,he,rfl,ht1⟩⟩
 ·rw[show aeo (⟨wm.toArray⟩:ByteArray).data.toList (⟨we.toArray⟩:ByteArray).data.toList=.ok ((L,F),E) from hA.load] at he
  cases he
 ·rw[show aeo (⟨wm.toArray⟩:ByteArray).data.toList (⟨we.toArray⟩:ByteArray).data.toList=.ok ((L,F),E) from hA.load] at he
  cases he
  have hI: ∀k:Int,0≤k→k≤10→InI k:=fun k h0 h1=>by unfold InI;omega
  have HT1:Aside (TbAt w1 b bd T L F E):=ht1
  have htb1:=htb.own hb1
  clear hA ht1 htb
  -- the first key
  go_wp2_with fail
  refine(key_any (es:=wEls L E [97,769]) (er:=0) (ag4 HT1.out _).1 (Nat.le_trans (ag4 HT1.out _).2 (by decide)) (by omega) (wel HT1.out htb1 2 (hI 2 (by omega) (by omega)) false true ⟨#[195,161]⟩ [225] (by decide) (by intro p hp;simp at hp;subst hp;unfold ag9;omega) HA.out.fa (by decide) 0 (by decide))).mono ?_
  rintro e w2 ⟨hb2,⟨_,rfl⟩ | ⟨h,_⟩⟩
  ·rw[show ((2:Int).toNat)=2 from rfl,HA.out.ka]
   have HT2:Aside (TbAt w2 b bd T L F E):=HT1.out.below hb2
   have htb2:=htb1.own hb2
   have hb02:=hb1.trans (hb2.mono hb1.size)
   clear HT1 htb1
   -- the second key
   go_wp2_with fail
   refine(key_any (es:=wEls L E [32,769]) (er:=0) (ag4 HT2.out _).1 (Nat.le_trans (ag4 HT2.out _).2 (by decide)) (by omega) (wel HT2.out htb2 4 (hI 4 (by omega) (by omega)) true false ⟨#[32,204,129]⟩ [32,769] (by decide) (by intro p hp;simp at hp;rcases hp with rfl | rfl<;>(unfold ag9;omega)) HA.out.fb (by decide) 0 (by decide))).mono ?_
   rintro e w3 ⟨hb3,⟨_,rfl⟩ | ⟨h,_⟩⟩
   ·rw[show ((4:Int).toNat)=4 from rfl,HA.out.kb]
    have HT3:Aside (TbAt w3 b bd T L F E):=HT2.out.below hb3
    have htb3:=htb2.own hb3
    have hb03:=hb02.trans (hb3.mono hb02.size)
    clear HT2 htb2
    -- how two stand
    go_wp2_with fail
    refine(wcompare_any (xs:=wEls L E [97]) (ys:=wEls L E [65]) (ex:=0) (ey:=0) (ag4 HT3.out _).1 (ag4 HT3.out _).1 (Nat.le_trans (ag4 HT3.out _).2 (by decide)) (Nat.le_trans (ag4 HT3.out _).2 (by decide)) (by omega) (wel HT3.out htb3 3 (hI 3 (by omega) (by omega)) false false ⟨#[97]⟩ [97] (by decide) (by intro p hp;simp at hp;subst hp;unfold ag9;omega) HA.out.fc (by decide) 0 (by decide)) (wel HT3.out htb3 3 (hI 3 (by omega) (by omega)) false false ⟨#[65]⟩ [65] (by decide) (by intro p hp;simp at hp;subst hp;unfold ag9;omega) HA.out.fd (by decide) 0 (by decide))).mono ?_
    rintro e w4 ⟨hb4,⟨_,_,rfl⟩ | ⟨h,_⟩ | ⟨_,h,_⟩⟩
    ·rw[show List.range ((3:Int).toNat)=[0,1,2] from rfl,HA.out.cc]
     have HT4:Aside (TbAt w4 b bd T L F E):=HT3.out.below hb4
     have htb4:=htb3.own hb4
     have hb04:=hb03.trans (hb4.mono hb03.size)
     clear HT3 htb3
     -- a collation that may not be
     go_wp2_with fail
     refine(key_any (es:=wEls L E [97]) (er:=1) (ag4 HT4.out _).1 (Nat.le_trans (ag4 HT4.out _).2 (by decide)) (by omega) (wel HT4.out htb4 4 (hI 4 (by omega) (by omega)) false false ⟨#[97]⟩ [97] (by decide) (by intro p hp;simp at hp;subst hp;unfold ag9;omega) HA.out.fc (by decide) 1 (by decide))).mono ?_
     rintro e w5 ⟨hb5,⟨h,_⟩ | ⟨_,rfl⟩⟩
     ·exact absurd h (by decide)
     ·have hb05:=hb04.trans (hb5.mono hb04.size)
      have t1:=bs_toList [16,0,0,0,0,36,0,32,0,0]
      have t2:=bs_toList [0,0,0,0,0,0,2,9,0,0]
      clear HT4 htb4
      go_wp2
      go_ret
      exact⟨rfl,hb05⟩
    ·exact absurd rfl h
    ·exact absurd rfl h
   ·exact absurd rfl h
  ·exact absurd rfl h
end Go.Proofs.YtpfkoldfbecdlaaGreatDoor
