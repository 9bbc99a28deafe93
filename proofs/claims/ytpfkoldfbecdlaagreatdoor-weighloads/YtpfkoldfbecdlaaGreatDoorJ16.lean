/- Contracts and lemmas (nothing is claimed here). -/
import Derived.Test.YtpfkoldfbecdlaaGreatDoorTTab1
import Derived.Lib.SliceRun
import Derived.Lib.Walk
namespace Go.Proofs.YtpfkoldfbecdlaaGreatDoor
open Go.RowKit Go.Vf Go.Maps
def ah2 (E:List Ent):Option Ent→Int×List Ent
 | none=>(60,E)
 | some x=>if x.2.all aaf then if akk E x.1 then (61,E) else if 4096≤E.length then (2,E) else (0,E++[x]) else (62,E)
theorem axw (s:List UInt8)(r:List (List UInt8))(n:Int)(acc:List Ent)(h:aax s=false):afh (s::r) n acc=if (ah2 acc (aem s)).1=0 then afh r (n+1) (ah2 acc (aem s)).2 else .error ((ah2 acc (aem s)).1,n+1):=by
 rw[afh]
 rw[if_neg (by rw[h];simp)]
 cases aem s with
 | none=>rfl
 | some x=>
  simp only[ah2]
  split
  ·split
   ·rfl
   ·split
    ·rfl
    ·rfl
  ·rfl
set_option maxHeartbeats 2000000 in
set_option maxRecDepth 20000 in
theorem a09 (base T me ml:Nat)(val:List Int→Value)(E:List Ent)(hE:E.length≤4096)(s:ByteArray)(m:Int)(w:World)(hs:s.size≤65536)(hm:w.cell? ⟨2,0,none⟩=some (.int .i64 m))(hbm:base≤me)(hbl:base≤ml)(ht:TabAt w T me ml val E):
  Calls Tryz.prog 46 #[.pointer (some ⟨T,0,none⟩),.string s] w fun e w'=>e=.returned (.int .i64 (ah2 E (aem s.data.toList)).1)∧(∃val',TabAt w' T me ml val' (ah2 E (aem s.data.toList)).2)∧Below base w w'∧KC w w':=by
 have hre:=aom s m w hs hm
 have hok: ∀x,aem s.data.toList=some x→ac9 x.1=true∧1≤x.2.length∧x.2.length≤16:=fun x hx=>ati hx
 have hmw:=ht.ents.lt
 have hbw:base≤w.heap.size:=by omega
 generalize aem s.data.toList=R at hre hok⊢
 cases R with
 | none=>
  have hR:ah2 E none=(60,E):=rfl
  rw[hR]
  clear hR hok
  go_enter Tryz.func46,Tryz.ntmps46
  go_wp2_with fail
  refine hre.mono ?_
  rintro _ w1 ⟨hb1,a0,a1,a2,a3,a4,a5,a6,a7,rfl⟩
  have hb2:=hb1.alloc hb1.size (.cells #[.int .i64 a0,.int .i64 a1,.int .i64 a2,.int .i64 a3,.int .i64 a4,.int .i64 a5,.int .i64 a6,.int .i64 a7] 144)
  have ht2:=ht.below hb2
  go_wp2
  go_ret
  exact⟨rfl,⟨val,ht2⟩,hb2.mono hbw,KC.of_below hb2⟩
 | some x=>
  obtain⟨p,l⟩:=x
  obtain⟨hp,hl0,hl16⟩:=hok (p,l) rfl
  simp only at hp hl0 hl16
  obtain⟨a0,a1,a2,a3,a4,a5,a6,a7,hp8⟩:=aq7 (aeg (abf hp).2)
  have hrow:am0 (acr p)=.agg #[.int .i64 a0,.int .i64 a1,.int .i64 a2,.int .i64 a3,.int .i64 a4,.int .i64 a5,.int .i64 a6,.int .i64 a7]:=by rw[hp8];rfl
  have hallB:an1 l=l.all aaf:=by
   unfold an1
   rw[show decide (1≤l.length)=true by simp;omega,show decide (l.length≤16)=true by simp;omega]
   rfl
  have hTR:ah2 E (some (p,l))=if l.all aaf then if akk E p then (61,E) else if 4096≤E.length then (2,E) else (0,E++[(p,l)]) else (62,E):=rfl
  generalize hq:ah2 E (some (p,l))=q at hTR⊢
  have HTR:Hid (q=if l.all aaf then if akk E p then (61,E) else if 4096≤E.length then (2,E) else (0,E++[(p,l)]) else (62,E)):=hTR
  clear hTR hq hok
  go_enter Tryz.func46,Tryz.ntmps46
  go_wp2_with fail
  refine hre.mono ?_
  rintro _ w1 ⟨hb1,ae,ne,ce,rfl,hown⟩
  simp only[hrow]
  have hb2:=hb1.alloc hb1.size (.cells #[.int .i64 a0,.int .i64 a1,.int .i64 a2,.int .i64 a3,.int .i64 a4,.int .i64 a5,.int .i64 a6,.int .i64 a7] 144)
  have ht2:=ht.below hb2
  have hB2:=Blk.new w1 144 #[.int .i64 a0,.int .i64 a1,.int .i64 a2,.int .i64 a3,.int .i64 a4,.int .i64 a5,.int .i64 a6,.int .i64 a7]
  have hel2:Els (w1.alloc (.cells #[.int .i64 a0,.int .i64 a1,.int .i64 a2,.int .i64 a3,.int .i64 a4,.int .i64 a5,.int .i64 a6,.int .i64 a7] 144)).heap.size (w1.alloc (.cells #[.int .i64 a0,.int .i64 a1,.int .i64 a2,.int .i64 a3,.int .i64 a4,.int .i64 a5,.int .i64 a6,.int .i64 a7] 144)) (.slice ae ne ce) l:=(hown.els.below ((Below.refl w1.heap.size w1).alloc (Nat.le_refl _) _) (Nat.le_refl _)).mono (by simp)
  clear hre ht
  go_upto_region 4 with fail
  generalize hW:(w1.alloc (.cells #[.int .i64 a0,.int .i64 a1,.int .i64 a2,.int .i64 a3,.int .i64 a4,.int .i64 a5,.int .i64 a6,.int .i64 a7] 144))=W at hb2 ht2 hB2 hel2⊢
  clear hW hown hb1
  have har:=aj6 W.heap.size (.slice ae ne ce) l W (Nat.le_refl _) hel2 (by omega)
  rw[hallB] at har
  have hlt2:=hB2.lt
  cases hall:l.all aaf with
  | false=>
   have hQ:q=(62,E):=by rw[HTR.out,hall];rfl
   rw[hall] at har
   subst hQ
   clear HTR hallB hall
   go_wp2_with fail
   refine har.mono ?_
   rintro _ w3 ⟨rfl,hb3⟩
   have ht3:=ht2.below hb3
   go_wp2
   go_ret
   exact⟨rfl,⟨val,ht3⟩,(hb2.trans (hb3.mono hb2.size)).mono hbw,KC.of_below (hb2.trans (hb3.mono hb2.size))⟩
  | true=>
   rw[hall] at har
   have hTR2:q=if akk E p then (61,E) else if 4096≤E.length then (2,E) else (0,E++[(p,l)]):=by rw[HTR.out,hall];rfl
   have hx:EntOk (p,l):=⟨hp,hl0,hl16,hall⟩
   have HX:Hid (EntOk (p,l)):=hx
   have HTR2:Hid (q=if akk E p then (61,E) else if 4096≤E.length then (2,E) else (0,E++[(p,l)])):=hTR2
   clear HTR hallB hall hTR2 hx
   go_wp2_with fail
   refine har.mono ?_
   rintro _ w3 ⟨rfl,hb3⟩
   have ht3:=ht2.below hb3
   have hel3:=(hel2.below hb3 (Nat.le_refl _)).mono hb3.size
   have hB3:=hB2.below hb3 hlt2
   have hbw3:=(hb2.trans (hb3.mono hb2.size)).mono hbw
   have hkc3:KC w w3.drew:=KC.of_below (hb2.trans (hb3.mono hb2.size)).drew
   have HKC:Hid (KC w w3.drew):=hkc3
   clear hkc3
   have hlk:=(show MapR w3.drew me E.length (amf val E) from ht3.ents.block rfl).look_ok (axh _) (apz hp)
   rw[hrow] at hlk
   have hef:amf val E (acr p)=if akk E p then some (val (acr p)) else none:=by unfold amf;rw[alw ht3.ok hp]
   rw[hef] at hlk
   have t0:w3.cell? ⟨T,0,none⟩=some (.map (some me)):=ht3.blk.cell 0
   obtain⟨c0,c1,c2,c3,c4,c5,c6,c7,_⟩:=hB3.c8
   clear hb3 hel2 hB2 ht2 hb2 har
   go_upto_region 6 with fail
   cases hh:akk E p with
   | true=>
    have hQ:q=(61,E):=by rw[HTR2.out,hh];rfl
    rw[hh] at hlk
    simp only[if_true,Option.getD,Option.isSome] at hlk
    generalize val (acr p)=vv at hlk
    subst hQ
    have ht4:TabAt w3.drew T me ml val E:=⟨ht3.blk,ht3.ents.block rfl,ht3.longs.block rfl,ht3.ne,ht3.els,ht3.ok⟩
    clear HTR2 hh hef ht3
    go_region
    go_wp2
    go_ret
    exact⟨rfl,⟨val,ht4⟩,hbw3.drew,HKC.out⟩
   | false=>
    have hTR3:q=if 4096≤E.length then (2,E) else (0,E++[(p,l)]):=by rw[HTR2.out,hh];rfl
    have HTR3:Hid (q=if 4096≤E.length then (2,E) else (0,E++[(p,l)])):=hTR3
    have HH:Hid (akk E p=false):=hh
    rw[hh] at hlk
    simp only[Bool.false_eq_true,if_false,Option.getD,Option.isSome] at hlk
    clear HTR2 hh hef hTR3
    have ht4:TabAt w3.drew T me ml val E:=⟨ht3.blk,ht3.ents.block rfl,ht3.longs.block rfl,ht3.ne,ht3.els,ht3.ok⟩
    have hel4:Els w3.drew.heap.size w3.drew (.slice ae ne ce) l:=hel3
    have hbw4:Below base w w3.drew:=hbw3.drew
    have hB4:Blk w3.drew w1.heap.size 144 #[.int .i64 a0,.int .i64 a1,.int .i64 a2,.int .i64 a3,.int .i64 a4,.int .i64 a5,.int .i64 a6,.int .i64 a7]:=hB3
    go_region
    go_upto_region 9 with fail
    clear hlk t0 c0 c1 c2 c3 c4 c5 c6 c7 hB3 hbw3 hel3 ht3
    generalize w3.drew=W4 at ht4 hel4 hbw4 hB4 HKC⊢
    have t0:W4.cell? ⟨T,0,none⟩=some (.map (some me)):=ht4.blk.cell 0
    obtain⟨c0,c1,c2,c3,c4,c5,c6,c7,_⟩:=hB4.c8
    have hlen:=fun ty=>ht4.ents.len ty
    by_cases hbig:4096≤E.length
    ·have hQ:q=(2,E):=by rw[HTR3.out,if_pos hbig]
     subst hQ
     go_wp2
     go_ret
     exact⟨rfl,⟨val,ht4⟩,hbw4,HKC.out⟩
    ·have hQ:q=(0,E++[(p,l)]):=by rw[HTR3.out,if_neg hbig]
     subst hQ
     have hadd:=a5g base T me ml val E p l HX.out HH.out (by omega) a0 a1 a2 a3 a4 a5 a6 a7 hp8 ae ne ce W4 hbm hbl ht4 hel4
     clear hp8 hrow
     go_wp2_with fail
     refine hadd.mono ?_
     rintro _ w5 ⟨rfl,ht5,hb5,hk5⟩
     go_wp2
     go_ret
     exact⟨rfl,ht5,hbw4.trans hb5,HKC.out.trans hk5⟩
def aru (r:Except (Int×Int) (List Ent))(w:World)(e:Ending)(w':World):Prop:=
 Below w.heap.size w w'∧match r with
  | .error (why,line)=>e=.returned (.tuple #[.pointer none,.int .i64 why,.int .i64 line])
  | .ok E=> ∃T me ml val,e=.returned (.tuple #[.pointer (some ⟨T,0,none⟩),.int .i64 0,.int .i64 0])∧TabAt w' T me ml val E
theorem agy {tmps:Array Value}{w:World}{a b c:Value}(t2:tmps[2]?.getD undef=a)(t3:tmps[3]?.getD undef=b)(t4:tmps[4]?.getD undef=c):(results Tryz.f18 tmps).run Tryz.prog w=.ok (.tuple #[a,b,c]) w:=by
 simp[results,Tryz.results18,go_sem,t2,t3,t4]
theorem a2u (val:List Int→Value):amf val []=fun _=>none:=by funext l;simp[amf]
theorem ayz:alf []=fun _=>none:=by funext x;simp[alf,aby]
theorem axu (E:List Ent)(o:Option Ent)(h:E.length≤4096):(ah2 E o).2.length≤4096:=by
 unfold ah2
 split
 ·exact h
 ·split
  ·split
   ·exact h
   ·split
    ·exact h
    ·simp;omega
  ·exact h
theorem a4k (w:World):TabAt (((w.alloc (.map #[] 0)).alloc (.map #[] 0)).alloc (.cells #[.map (some w.heap.size),.map (some (w.heap.size+1))] 114)) (w.heap.size+1+1) w.heap.size (w.heap.size+1) (fun _=>.slice none 0 0) []:=by
 have h1:=MapR.made w
 have h2:=MapAt.made (w.alloc (.map #[] 0))
 have h3:=Blk.new ((w.alloc (.map #[] 0)).alloc (.map #[] 0)) 114 #[.map (some w.heap.size),.map (some (w.heap.size+1))]
 rw[show (w.alloc (.map #[] 0)).heap.size=w.heap.size+1 by simp] at h2
 rw[show ((w.alloc (.map #[] 0)).alloc (.map #[] 0)).heap.size=w.heap.size+1+1 by simp] at h3
 refine⟨h3,?_,?_,by omega,by simp,by simp⟩
 ·rw[a2u]
  exact(h1.block (w':=(w.alloc (.map #[] 0)).alloc (.map #[] 0)) (Below.heap_alloc _ _ _ (by simp))).block (Below.heap_alloc _ _ _ (by simp;omega))
 ·rw[ayz]
  exact h2.alloc _
set_option maxHeartbeats 2000000 in
set_option maxRecDepth 20000 in
theorem ay5 (s:ByteArray)(m:Int)(w:World)(hm:w.cell? ⟨2,0,none⟩=some (.int .i64 m))(hbig:s.size≤281474976710656):
  Calls Tryz.prog 18 #[.string s] w fun e w'=>aru (ac0 s.data.toList) w e w':=by
 have hmm:= @run_makeMap Tryz.prog
 have hsl:s.data.toList.length=s.size:=(Lib.size_eq s).symm
 have hlt0:2<w.heap.size:=World.block_lt_of_cell? w _ hm
 by_cases hlong:65536<s.size
 ·have hR:ac0 s.data.toList=.error (2,0):=by unfold ac0;rw[if_pos (by omega)]
  rw[hR]
  clear hR
  go_enter Tryz.func18,Tryz.ntmps18
  go_wp2_with fail
  refine bodyPost_ret (agy rfl rfl rfl) rfl ?_
  exact⟨Below.refl _ _,rfl⟩
 ·have hs:s.size≤65536:=by omega
  have hR:ac0 s.data.toList=afh (aa5 10 s.data.toList) 0 []:=by unfold ac0;rw[if_neg (by omega)]
  have hcs:=abj 10 s.data.toList
  have hcl:=abn 10 s.data.toList
  have hsp:=fun(W:World)=>ad4 10 s m W hs
  rw[hR]
  generalize aa5 10 s.data.toList=C at hcs hcl hsp
  generalize hQ:afh C 0 []=R
  have HR:Hid (afh C 0 []=R):=hQ
  clear hR hQ
  have htn:=a4k w
  have hbn:Below w.heap.size w (((w.alloc (.map #[] 0)).alloc (.map #[] 0)).alloc (.cells #[.map (some w.heap.size),.map (some (w.heap.size+1))] 114)):=(((Below.refl w.heap.size w).alloc (Nat.le_refl _) _).alloc (by simp) _).alloc (by simp;omega) _
  have hm1:=(hbn.cell (p:=⟨2,0,none⟩) hlt0).trans hm
  go_enter Tryz.func18,Tryz.ntmps18
  go_upto_region 4 with fail
  generalize ((w.alloc (.map #[] 0)).alloc (.map #[] 0)).alloc (.cells #[.map (some w.heap.size),.map (some (w.heap.size+1))] 114)=W at htn hbn hm1⊢
  have HBm:Hid (w.heap.size≤w.heap.size+1):=Nat.le_succ _
  generalize hml:w.heap.size+1=ml at htn HBm
  generalize hT:ml+1=T at htn
  try rw[hml]
  try rw[hT]
  clear hml hT
  go_wp2_with fail
  refine(hsp W hm1).mono ?_
  rintro _ w1 ⟨rfl,hst,hb1,hsz1⟩
  have ht1:=htn.below hb1
  have hbw1:Below w.heap.size w w1:=hbn.trans (hb1.mono hbn.size)
  have hlt1:W.heap.size<w1.heap.size:=by omega
  clear hsz1 hb1 htn hsp hbn hm1
  go_wp2_with fail
  go_loopw [19] (fun i wr=> ∃(k:Nat) (acc:List Ent) (val:List Int→Value),k≤C.length∧i=.int .i64 k∧TabAt wr T w.heap.size ml val acc∧acc.length≤4096∧Hid (afh (C.drop k) (k:Int) acc=R)∧Strs wr W.heap.size C∧Below w.heap.size w wr) (fun i _=>C.length-(intOf i).toNat)
  case atStart=>exact⟨0,[],_,by omega,rfl,ht1,by simp,HR,hst,hbw1⟩
  case round=>
   clear HR ht1 hst hbw1
   obtain⟨k,acc,val,hk,rfl,htk,hacc,HK,hstk,hbel⟩:=hrel
   by_cases hlt:k<C.length
   ·have hd:C.drop k=C[k]::C.drop (k+1):=List.drop_eq_getElem_cons hlt
    have hck:=hstk.cell hlt
    have hkl:=hcs C[k] (List.getElem_mem hlt)
    have hszk:(bsz C[k]).size≤65536:=by simp[ByteArray.size];omega
    have hdat:C[k]=(bsz C[k]).data.toList:=by simp
    generalize bsz C[k]=t at hck hszk hdat
    rw[hdat] at hd
    cases hsil:aax t.data.toList with
    | true=>
     have HK2:Hid (afh (C.drop (k+1)) ((k:Int)+1) acc=R):=by show _=_;rw[←HK.out,hd,afh,if_pos hsil]
     clear HK hd hdat
     by_cases hemp:t.data.toList=[]
     ·have hemp':t.toList.isEmpty=true:=by rw[ByteArray.toList_eq];simpa using hemp
      clear hsil hemp
      go_wp2_with fail
      go_roundw
      case rel=>exact⟨k+1,acc,val,by omega,by simp,htk,hacc,by simpa using HK2,hstk,hbel⟩
      case measure=>simp only[intOf];omega
     ·have hemp':t.toList.isEmpty=false:=by rw[ByteArray.toList_eq];simpa using hemp
      have hpos:0<t.size:=by rw[Lib.size_eq];exact List.length_pos_iff.2 hemp
      have he':(t[0].toNat:Int)=35:=by
       unfold aax at hsil
       rw[ae6 t hpos] at hsil
       have hne:t.data.toList.isEmpty=false:=by simpa using hemp
       rw[hne] at hsil
       simp at hsil
       rw[hsil];rfl
      have he:((t[0].toNat:Int)==35)=true:=by simpa using he'
      clear hsil hemp
      go_wp2_with fail
      go_roundw
      case rel=>exact⟨k+1,acc,val,by omega,by simp,htk,hacc,by simpa using HK2,hstk,hbel⟩
      case measure=>simp only[intOf];omega
    | false=>
     have hemp:t.data.toList≠ []:=fun e=>by simp[aax,e] at hsil
     have hemp':t.toList.isEmpty=false:=by rw[ByteArray.toList_eq];simpa using hemp
     have hpos:0<t.size:=by rw[Lib.size_eq];exact List.length_pos_iff.2 hemp
     have he': ¬(t[0].toNat:Int)=35:=by
      unfold aax at hsil
      rw[ae6 t hpos] at hsil
      have hne:t.data.toList.isEmpty=false:=by simpa using hemp
      rw[hne] at hsil
      simp at hsil
      intro e
      exact hsil (UInt8.toNat_inj.1 (by
       have:t[0].toNat=35:=by omega
       simpa using this))
     have he:((t[0].toNat:Int)==35)=false:=by simpa using he'
     have HK1:Hid (R=if (ah2 acc (aem t.data.toList)).1=0 then afh (C.drop (k+1)) ((k:Int)+1) (ah2 acc (aem t.data.toList)).2 else .error ((ah2 acc (aem t.data.toList)).1,(k:Int)+1)):=by show _=_;rw[←HK.out,hd,axw _ _ _ _ hsil]
     have hmw:=(hbel.cell (p:=⟨2,0,none⟩) hlt0).trans hm
     have htk2:=a09 w.heap.size T w.heap.size ml val acc hacc t m wr hszk hmw (Nat.le_refl _) HBm.out htk
     have hac2:=axu acc (aem t.data.toList) hacc
     generalize ah2 acc (aem t.data.toList)=q at HK1 htk2 hac2
     obtain⟨q1,q2⟩:=q
     simp only at HK1 htk2 hac2
     clear HK hd hsil hemp hdat he' htk
     go_wp2_with fail
     refine htk2.mono ?_
     rintro _ w2 ⟨rfl,⟨val',ht2⟩,hb2,hk2⟩
     have hst2:Strs w2 W.heap.size C:=hk2 _ _ _ hstk
     have hbel2:=hbel.trans hb2
     by_cases h0:q1=0
     ·have HK2:Hid (afh (C.drop (k+1)) ((k:Int)+1) q2=R):=by show _=_;rw[HK1.out,if_pos h0]
      have b0:(q1 !=0)=false:=by rw[h0];rfl
      clear HK1 h0
      go_wp2_with fail
      go_roundw
      case rel=>exact⟨k+1,q2,val',by omega,by simp,ht2,hac2,by simpa using HK2,hst2,hbel2⟩
      case measure=>simp only[intOf];omega
     ·have hRe:R=.error (q1,(k:Int)+1):=by rw[HK1.out,if_neg h0]
      have b0:(q1 !=0)=true:=by rw[bne_iff_ne];exact h0
      clear HK1 h0
      go_wp2_with fail
      refine bodyPost_ret (agy rfl rfl rfl) rfl ?_
      exact⟨hbel2,by rw[hRe];rfl⟩
   ·have hRs:R=.ok acc:=by rw[←HK.out,List.drop_of_length_le (by omega)];rfl
    clear HK
    go_wp2_with fail
    refine bodyPost_ret (agy rfl rfl rfl) rfl ?_
    exact⟨hbel,by rw[hRs];exact⟨T,_,_,_,rfl,htk⟩⟩
theorem auy {n₀:Nat}{w:World}{b off n c:Nat}{l:List El}(h:Els n₀ w (.slice (some ⟨b,off,none⟩) n c) l)(j:Nat)(u:Value)(hu:(ai9 l)[j]? =some u):w.cell? ⟨b,off+j,none⟩=some u:=by
 have hj:j<(ai9 l).length:=(List.getElem?_eq_some_iff.1 hu).1
 rw[agn] at hj
 have hq:j/4<l.length:=by omega
 rcases h with ⟨a,cap,e,rfl⟩ | ⟨b',off',cap,e,hlt,hc⟩
 ·simp at hq
 ·cases e
  obtain⟨h0,h1,h2,h3⟩:=hc (j/4) hq
  obtain⟨g0,g1,g2,g3⟩:=a0b l (j/4) hq
  have hm:j % 4=0∨j % 4=1∨j % 4=2∨j % 4=3:=by omega
  rcases hm with hm | hm | hm | hm
  ·have e1:j=j/4*4:=by omega
   rw[e1] at hu
   rw[show off+j=off+j/4*4 by omega,h0,←hu,g0]
  ·have e1:j=j/4*4+1:=by omega
   rw[e1] at hu
   rw[show off+j=off+j/4*4+1 by omega,h1,←hu,g1]
  ·have e1:j=j/4*4+2:=by omega
   rw[e1] at hu
   rw[show off+j=off+j/4*4+2 by omega,h2,←hu,g2]
  ·have e1:j=j/4*4+3:=by omega
   rw[e1] at hu
   rw[show off+j=off+j/4*4+3 by omega,h3,←hu,g3]
theorem auz (l:List El): ∀u∈ai9 l,u.oneCell'=true:=by
 intro u hu
 unfold ai9 at hu
 obtain⟨e,_,he⟩:=List.mem_flatMap.1 hu
 simp[elV] at he
 rcases he with rfl | rfl | rfl | rfl<;>rfl
set_option maxHeartbeats 2000000 in
set_option maxRecDepth 100000 in
theorem anu (n₀ b off c:Nat)(l:List El)(w:World)(hl:l.length≤1048576)(h:Els n₀ w (.slice (some ⟨b,off,none⟩) l.length c) l):
  Calls Tryz.prog 69 #[.slice (some ⟨b,off,none⟩) l.length c] w fun e w'=> ∃v',e=.returned v'∧EOwn w' w.heap.size v' l∧Below w.heap.size w w':=by
 obtain⟨i0,hi,hz0,hz1,hz2⟩:=info_parts aur
 have A:Aside (∀j u,(ai9 l)[j]? =some u→w.cell? ⟨b,off+j,none⟩=some u):=auy h
 clear h
 have q35: ∀(w:World) (a:Option Addr) (n c n' c':Nat),(binOp .eql 75 (.slice a n c) (.slice none n' c')).run Tryz.prog w=.ok (.bool a.isNone) w:=fun w a n c n' c'=>Lib.run_eql_slice_nil w _ _ a n c n' c' Tryz.underlying75
 have u35: ∀w,Sem.run Tryz.prog (underlying 75) w=.ok (TypeDesc.slice 133) w:=run_underlying Tryz.underlying75
 go_enter Tryz.func69,Tryz.ntmps69
 go_wp2_with (at_builtin;refine wpList_append_own _ rfl _ _ 75 rfl w.heap.size 133 i0 _ 4 32 Tryz.underlying75 hi hz0 hz1 hz2 rfl (by decide) _ _ _ rfl (World.ownsRow_made w #[] 0 (Nat.le_refl _) (Nat.zero_le _) rfl) ⟨b,off,none⟩ l.length c (ai9 l) rfl ?qc1 ?qc2 ?qc3 ?qc4 ?qc5 ?qc6 ?_)
 case qc1=>simp[agn]
 case qc2=>
  intro j u hj
  rw[Addr.add_lit]
  exact Lib.cell?_alloc_some _ (A.out j u hj)
 case qc3=>exact auz l
 case qc4=>unfold maxLen;omega
 case qc5=>omega
 case qc6=>simp
 intro v' w1 hown hgrow hnil
 go_wp2
 go_ret
 refine⟨v',rfl,by simpa[EOwn] using hown,?_⟩
 exact((Below.refl _ w).alloc (Nat.le_refl _) _).grown hgrow (by simp) (by intro k hk;simp[Value.ownBlock] at hk;omega)
set_option maxHeartbeats 1000000 in
set_option maxRecDepth 100000 in
theorem aw5 (w:World):Calls Tryz.prog 69 #[.slice none 0 0] w fun e w'=>e=.returned (.slice none 0 0)∧w'=w:=by
 have q35: ∀(w:World) (a:Option Addr) (n c n' c':Nat),(binOp .eql 75 (.slice a n c) (.slice none n' c')).run Tryz.prog w=.ok (.bool a.isNone) w:=fun w a n c n' c'=>Lib.run_eql_slice_nil w _ _ a n c n' c' Tryz.underlying75
 have u35: ∀w,Sem.run Tryz.prog (underlying 75) w=.ok (TypeDesc.slice 133) w:=run_underlying Tryz.underlying75
 go_enter Tryz.func69,Tryz.ntmps69
 go_wp2
 go_ret
 exact⟨rfl,rfl⟩
def a3p (w:World)(r:Option (List El))(e:Ending)(w':World):Prop:=
 Below w.heap.size w w'∧match r with
  | none=>e=.returned (.tuple #[.slice none 0 0,.bool false])
  | some l=> ∃a n c,e=.returned (.tuple #[.slice a n c,.bool true])∧EOwn w' w.heap.size (.slice a n c) l
theorem az2 {E:List Ent}(hok: ∀e∈E,EntOk e){p:List Int}(hp:ac9 p=false):ahr E p=none:=by
 unfold ahr
 rw[Option.map_eq_none_iff,List.find?_eq_none]
 intro e he h
 have:=(hok e he).row
 rw[beq_iff_eq.1 h,hp] at this
 cases this
theorem ahj {E:List Ent}{p:List Int}{l:List El}(h:ahr E p=some l):(p,l)∈E:=by
 unfold ahr at h
 obtain⟨e,he,rfl⟩:=Option.map_eq_some_iff.1 h
 have h1:=List.mem_of_find?_eq_some he
 have h2:=List.find?_some he
 rw[beq_iff_eq] at h2
 obtain⟨a,b⟩:=e
 simp only at h2
 subst h2
 exact h1
set_option maxHeartbeats 2000000 in
set_option maxRecDepth 20000 in
theorem auw (T me ml n₀:Nat)(val:List Int→Value)(E:List Ent)(v:Value)(zs:List Int)(w:World)(ht:TabAt w T me ml val E)(hn₀:n₀≤w.heap.size)(hin:Ints n₀ w v zs)(hll:zs.length≤4611686018427387904):
  Calls Tryz.prog 125 #[.pointer (some ⟨T,0,none⟩),v] w fun e w'=>a3p w (ahr E zs) e w':=by
 obtain⟨a,cap,hv⟩: ∃a cap,v=.slice a zs.length cap:=by
  rcases hin with ⟨a,cap,rfl,rfl⟩ | ⟨b,off,cap,rfl,_⟩
  ·exact⟨_,_,rfl⟩
  ·exact⟨_,_,rfl⟩
 subst hv
 have hro:=ak1 n₀ _ zs w hn₀ hin hll
 unfold aut at hro
 cases hp:ac9 zs with
 | false=>
  rw[hp] at hro
  rw[az2 ht.ok hp]
  simp only[Bool.false_eq_true,if_false] at hro
  rw[show am0 ahy=.agg #[.int .i64 0,.int .i64 0,.int .i64 0,.int .i64 0,.int .i64 0,.int .i64 0,.int .i64 0,.int .i64 0] from rfl] at hro
  clear hin hp
  go_enter Tryz.func125,Tryz.ntmps125
  go_wp2_with fail
  refine hro.mono ?_
  rintro _ w1 ⟨rfl,hb1⟩
  have hb2:=hb1.alloc hb1.size (.cells #[.int .i64 0,.int .i64 0,.int .i64 0,.int .i64 0,.int .i64 0,.int .i64 0,.int .i64 0,.int .i64 0] 144)
  go_wp2
  go_ret2
  exact⟨hb2,rfl⟩
 | true=>
  rw[hp] at hro
  simp only[if_true] at hro
  obtain⟨a0,a1,a2,a3,a4,a5,a6,a7,hp8⟩:=aq7 (aeg (abf hp).2)
  have hrow:am0 (acr zs)=.agg #[.int .i64 a0,.int .i64 a1,.int .i64 a2,.int .i64 a3,.int .i64 a4,.int .i64 a5,.int .i64 a6,.int .i64 a7]:=by rw[hp8];rfl
  rw[hrow] at hro
  have hfs: ∀l,ahr E zs=some l→(zs,l)∈E:=fun l h=>ahj h
  have hhf:=azt E zs
  generalize ahr E zs=R at hfs hhf⊢
  clear hin hp8
  go_enter Tryz.func125,Tryz.ntmps125
  go_wp2_with fail
  refine hro.mono ?_
  rintro _ w1 ⟨rfl,hb1⟩
  have hb2:=hb1.alloc hb1.size (.cells #[.int .i64 a0,.int .i64 a1,.int .i64 a2,.int .i64 a3,.int .i64 a4,.int .i64 a5,.int .i64 a6,.int .i64 a7] 144)
  have ht2:=ht.below hb2
  have hB2:=Blk.new w1 144 #[.int .i64 a0,.int .i64 a1,.int .i64 a2,.int .i64 a3,.int .i64 a4,.int .i64 a5,.int .i64 a6,.int .i64 a7]
  go_upto_region 6 with fail
  generalize (w1.alloc (.cells #[.int .i64 a0,.int .i64 a1,.int .i64 a2,.int .i64 a3,.int .i64 a4,.int .i64 a5,.int .i64 a6,.int .i64 a7] 144))=W at hb2 ht2 hB2⊢
  have hlk:=(show MapR W.drew me E.length (amf val E) from ht2.ents.block rfl).look_ok (axh _) (apz hp)
  rw[hrow] at hlk
  have hef:amf val E (acr zs)=if akk E zs then some (val (acr zs)) else none:=by unfold amf;rw[alw ht2.ok hp]
  rw[hef,hhf] at hlk
  have t0:W.cell? ⟨T,0,none⟩=some (.map (some me)):=ht2.blk.cell 0
  obtain⟨c0,c1,c2,c3,c4,c5,c6,c7,_⟩:=hB2.c8
  clear hef hhf hrow hro
  cases R with
  | none=>
   simp only[Option.isSome,Bool.false_eq_true,if_false,Option.getD] at hlk
   go_region
   go_wp2_with fail
   refine(aw5 _).mono ?_
   rintro _ w3 ⟨rfl,rfl⟩
   go_wp2
   go_ret2
   exact⟨hb2.drew,rfl⟩
  | some l=>
   simp only[Option.isSome,if_true,Option.getD] at hlk
   have hmem:=hfs l rfl
   have hel:=ht2.els (zs,l) hmem
   have hok:=ht2.ok (zs,l) hmem
   simp only at hel
   have hl0:1≤l.length:=hok.n0
   have hl1:l.length≤16:=hok.n1
   generalize val (acr zs)=vv at hlk hel
   obtain⟨b,off,cv,rfl⟩: ∃b off cv,vv=.slice (some ⟨b,off,none⟩) l.length cv:=by
    rcases hel with ⟨_,_,_,rfl⟩ | ⟨b,off,cv,rfl,_⟩
    ·simp at hl0
    ·exact⟨b,off,cv,rfl⟩
   have hcl:=anu W.heap.size b off cv l W.drew (by omega) hel
   have hlw:w.heap.size≤W.heap.size:=hb2.size
   clear hfs hmem hel hok ht2 hB2
   go_region
   go_wp2_with fail
   refine hcl.mono ?_
   rintro _ w3 ⟨v',rfl,hown,hb3⟩
   obtain⟨av,cv',rfl⟩:=aay hown
   have hbz:Below w.heap.size w w3:=hb2.trans ((show Below W.heap.size W w3 from((Below.refl _ W).drew).trans hb3).mono hlw)
   go_wp2
   go_ret2
   exact⟨hbz,_,_,_,rfl,aah hown hlw⟩
set_option maxHeartbeats 1000000 in
theorem ale (T me ml:Nat)(val:List Int→Value)(E:List Ent)(x:Int)(hx:InI x)(w:World)(ht:TabAt w T me ml val E):
  Calls Tryz.prog 239 #[.pointer (some ⟨T,0,none⟩),.int .i64 x] w fun e w'=>e=.returned (.int .i64 (aby E x:Int))∧w=w':=by
 have t1:w.cell? ⟨T,1,none⟩=some (.map (some ml)):=ht.blk.cell 1
 have hl:=ht.longs.look Tryz.underlying112 (axg w) hx
 rw[aql] at hl
 generalize aby E x=L at hl⊢
 go_enter Tryz.func239,Tryz.ntmps239
 go_wp2
 go_ret
 exact⟨rfl,rfl⟩
end Go.Proofs.YtpfkoldfbecdlaaGreatDoor
namespace Go.Vf
def acx:List Ent→List UInt8
 | []=>[]
 | x::r=>agu x++r.flatMap fun y=>10::agu y
def akb (l:List Ent):Nat:=(l.map fun x=>(agu x).length+1).sum
theorem awh {a b:List Ent}(h:a.Perm b):akb a=akb b:=(h.map _).sum_nat
theorem awg (l:List Ent)(x:Ent):akb (l++[x])=akb l+((agu x).length+1):=by simp[akb]
theorem axs: ∀(l:List Ent),l≠ []→(acx l).length+1=akb l:=by
 intro l h
 cases l with
 | nil=>exact absurd rfl h
 | cons x r=>
  have: ∀r:List Ent,(r.flatMap fun y=>10::agu y).length=akb r:=by
   intro r
   induction r with
   | nil=>rfl
   | cons y t ih=>simp only[List.flatMap_cons,List.length_append,ih,akb,List.map_cons,List.sum_cons];simp
  simp only[acx,List.length_append,this]
  simp only[akb,List.map_cons,List.sum_cons]
  omega
theorem axx: ∀(C:List (List UInt8)) (n:Int) (acc E:List Ent),afh C n acc=.ok E→akb E≤akb acc+(C.map (fun s=>s.length+1)).sum:=by
 intro C
 induction C with
 | nil=>intro n acc E h;simp[afh] at h;subst h;simp
 | cons s r ih=>
  intro n acc E h
  unfold afh at h
  split at h
  ·have:=ih _ _ _ h
   simp only[List.map_cons,List.sum_cons]
   omega
  ·split at h
   ·cases h
   ·rename_i x hx
    split at h
    ·split at h
     ·cases h
     ·split at h
      ·cases h
      ·have h1:=ih _ _ _ h
       have h2:=congrArg List.length (aq3 hx)
       rw[awg] at h1
       simp only[List.map_cons,List.sum_cons]
       omega
    ·cases h
theorem a0k (c:UInt8): ∀(s:List UInt8),((aa5 c s).map (fun x=>x.length+1)).sum=s.length+1:=by
 intro s
 induction s with
 | nil=>rfl
 | cons b r ih=>
  unfold aa5
  split
  ·simp only[List.map_cons,List.sum_cons,ih,List.length_nil,List.length_cons];omega
  ·cases hc:aa5 c r with
   | nil=>exact absurd hc (aif c r)
   | cons h t=>
    rw[hc] at ih
    simp only[List.map_cons,List.sum_cons,List.length_cons] at ih⊢
    omega
theorem ar2 {s:List UInt8}{E l:List Ent}(h:ac0 s=.ok E)(hp:l.Perm E):(acx l).length≤s.length:=by
 unfold ac0 at h
 split at h
 ·cases h
 ·have h1:=axx _ _ _ _ h
  rw[a0k] at h1
  have h2:=awh hp
  cases hl:l with
  | nil=>simp[acx]
  | cons x r=>
   have h3:=axs l (by rw[hl];simp)
   rw[←hl]
   simp[akb] at h1 h2 h3
   omega
def aag:List Int→List Int→Int
 | [],[]=>0
 | [],_::_=> -1
 | _::_,[]=>1
 | a::r,b::t=>if a<b then -1 else if b<a then 1 else aag r t
theorem ac3: ∀a:List Int,aag a a=0:=by
 intro a
 induction a with
 | nil=>rfl
 | cons x r ih=>simp[aag,ih]
theorem al8: ∀a b:List Int,aag a b=0→a=b:=by
 intro a
 induction a with
 | nil=>intro b h;cases b with
  | nil=>rfl
  | cons y t=>simp[aag] at h
 | cons x r ih=>
  intro b h
  cases b with
  | nil=>simp[aag] at h
  | cons y t=>
   unfold aag at h
   split at h
   ·cases h
   ·split at h
    ·cases h
    ·rw[ih t h,show x=y by omega]
theorem aec: ∀a b c:List Int,aag a b<0→aag b c<0→aag a c<0:=by
 intro a
 induction a with
 | nil=>
  intro b c h1 h2
  cases b with
  | nil=>simp[aag] at h1
  | cons y t=>cases c with
   | nil=>simp[aag] at h2
   | cons z u=>simp[aag]
 | cons x r ih=>
  intro b c h1 h2
  cases b with
  | nil=>simp[aag] at h1
  | cons y t=>cases c with
   | nil=>simp[aag] at h2
   | cons z u=>
    unfold aag at h1 h2⊢
    by_cases hxy:x<y
    ·by_cases hyz:y<z
     ·rw[if_pos (by omega)];decide
     ·rw[if_neg hyz] at h2
      split at h2
      ·omega
      ·rw[if_pos (by omega)];decide
    ·rw[if_neg hxy] at h1
     split at h1
     ·omega
     ·by_cases hyz:y<z
      ·rw[if_pos (by omega)];decide
      ·rw[if_neg hyz] at h2
       split at h2
       ·omega
       ·rw[if_neg (by omega),if_neg (by omega)]
        exact ih t u h1 h2
end Go.Vf
namespace Go.Proofs.YtpfkoldfbecdlaaGreatDoor
open Go.RowKit Go.Vf Go.Maps
theorem ao3 {n₀:Nat}{w:World}{a:Option Addr}{k cap:Nat}{zs:List Int}(h:Ints n₀ w (.slice a k cap) zs){j:Nat}(hj:j<zs.length): ∃b off,a=some ⟨b,off,none⟩∧w.cell? ⟨b,off+j,none⟩=some (.int .i64 zs[j]):=by
 rcases h with ⟨a',cap',e,rfl⟩ | ⟨b,off,cap',e,hb,hc⟩
 ·simp at hj
 ·cases e
  refine⟨b,off,rfl,?_⟩
  have:=hc j hj
  rw[List.getElem?_eq_getElem hj] at this
  exact this
theorem ahg {n₀:Nat}{w:World}{v:Value}{zs:List Int}(h:Ints n₀ w v zs): ∃a cap,v=.slice a zs.length cap:=by
 rcases h with ⟨a,cap,rfl,rfl⟩ | ⟨b,off,cap,rfl,_⟩
 ·exact⟨_,_,rfl⟩
 ·exact⟨_,_,rfl⟩
theorem a6t (x y:Int):Lib.compareInt x y=if x<y then -1 else if y<x then 1 else 0:=by
 unfold Lib.compareInt
 split
 ·rfl
 ·split<;>first | rfl | omega
set_option maxHeartbeats 2000000 in
set_option maxRecDepth 20000 in
theorem aj5 (n₁ n₂:Nat)(va vb:Value)(a b:List Int)(w:World)(ha:Ints n₁ w va a)(hb:Ints n₂ w vb b)(hla:a.length≤4611686018427387904)(hlb:b.length≤4611686018427387904):
  Calls Tryz.prog 63 #[va,vb] w fun e w'=>e=.returned (.int .i64 (aag a b))∧w=w':=by
 obtain⟨aa,ca,rfl⟩:=ahg ha
 obtain⟨ab,cb,rfl⟩:=ahg hb
 generalize hR:aag a b=R
 have HR:Hid (aag (a.drop 0) (b.drop 0)=R):=hR
 clear hR
 go_enter Tryz.func63,Tryz.ntmps63
 go_wp2_with fail
 go_loopw [11] (fun i wr=> ∃k:Nat,k≤a.length∧k≤b.length∧i=.int .i64 k∧Hid (aag (a.drop k) (b.drop k)=R)∧wr=w) (fun i _=>a.length-(intOf i).toNat)
 case atStart=>exact⟨0,by omega,by omega,rfl,HR,rfl⟩
 case round=>
  clear HR
  obtain⟨k,hk,hkb,rfl,HK,rfl⟩:=hrel
  by_cases hlt:k<a.length
  ·obtain⟨b1,o1,rfl,x1⟩:=ao3 ha hlt
   have hd1:a.drop k=a[k]::a.drop (k+1):=List.drop_eq_getElem_cons hlt
   by_cases hltb:k<b.length
   ·obtain⟨b2,o2,rfl,x2⟩:=ao3 hb hltb
    have hd2:b.drop k=b[k]::b.drop (k+1):=List.drop_eq_getElem_cons hltb
    have hKK:=HK.out
    rw[hd1,hd2] at hKK
    have hc:=Tryz.cmp_Compare_int a[k] b[k] wr
    rw[a6t] at hc
    generalize a[k]=x at x1 hKK hc
    generalize b[k]=y at x2 hKK hc
    unfold aag at hKK
    clear HK hd1 hd2
    by_cases h1:x<y
    ·rw[if_pos h1] at hKK hc
     have HRn:Hid (R= -1):=hKK.symm
     clear hKK h1
     go_wp2_with fail
     refine hc.mono ?_
     rintro _ w1 ⟨rfl,rfl⟩
     go_wp2
     go_ret
     exact⟨by rw[HRn.out];rfl,rfl⟩
    ·rw[if_neg h1] at hKK hc
     by_cases h2:y<x
     ·rw[if_pos h2] at hKK hc
      have HRn:Hid (R=1):=hKK.symm
      clear hKK h1 h2
      go_wp2_with fail
      refine hc.mono ?_
      rintro _ w1 ⟨rfl,rfl⟩
      go_wp2
      go_ret
      exact⟨by rw[HRn.out];rfl,rfl⟩
     ·rw[if_neg h2] at hKK hc
      have HK2:Hid (aag (a.drop (k+1)) (b.drop (k+1))=R):=hKK
      clear hKK h1 h2
      go_wp2_with fail
      refine hc.mono ?_
      rintro _ w1 ⟨rfl,rfl⟩
      go_wp2
      go_roundw
      case rel=>exact⟨k+1,by omega,by omega,by simp,HK2,trivial⟩
      case measure=>simp only[intOf];omega
   ·have hRn:R=1:=by
     rw[←HK.out,hd1,show b.drop k=[] from List.drop_of_length_le (by omega)];rfl
    clear HK hd1
    go_wp2
    go_ret
    exact⟨by rw[hRn];rfl,rfl⟩
  ·by_cases hltb:k<b.length
   ·have hRn:R= -1:=by
     rw[←HK.out,show a.drop k=[] from List.drop_of_length_le (by omega),List.drop_eq_getElem_cons hltb];rfl
    have hl:a.length<b.length:=by omega
    clear HK
    go_wp2
    go_ret
    exact⟨by rw[hRn];rfl,rfl⟩
   ·have hRn:R=0:=by
     rw[←HK.out,show a.drop k=[] from List.drop_of_length_le (by omega),show b.drop k=[] from List.drop_of_length_le (by omega)];rfl
    have hl: ¬a.length<b.length:=by omega
    clear HK
    go_wp2
    go_ret
    exact⟨by rw[hRn];rfl,rfl⟩
def EIn (n₀:Nat)(w:World)(v:Value)(l:List Ent):Prop:=
 (∃a cap,v=.slice a 0 cap∧l=[])∨ ∃b off cap,v=.slice (some ⟨b,off,none⟩) l.length cap∧b<n₀∧ ∀j (hj:j<l.length),∃pa pc ea ec,
  w.cell? ⟨b,off+j*2,none⟩=some (.slice pa l[j].1.length pc)∧w.cell? ⟨b,off+j*2+1,none⟩=some (.slice ea l[j].2.length ec)∧Ints n₀ w (.slice pa l[j].1.length pc) l[j].1∧Els n₀ w (.slice ea l[j].2.length ec) l[j].2
theorem EIn.val {n₀:Nat}{w:World}{v:Value}{l:List Ent}(h:EIn n₀ w v l): ∃a cap,v=.slice a l.length cap:=by
 rcases h with ⟨a,cap,rfl,rfl⟩ | ⟨b,off,cap,rfl,_⟩
 ·exact⟨a,cap,rfl⟩
 ·exact⟨_,cap,rfl⟩
theorem EIn.below {n₀ n:Nat}{w w':World}{v:Value}{l:List Ent}(h:EIn n₀ w v l)(hb:Below n w w')(hn:n₀≤n):EIn n₀ w' v l:=by
 rcases h with h | ⟨b,off,cap,e,hlt,hc⟩
 ·exact .inl h
 ·refine .inr ⟨b,off,cap,e,hlt,fun j hj=> ?_⟩
  obtain⟨pa,pc,ea,ec,h0,h1,h2,h3⟩:=hc j hj
  have q: ∀k,w'.cell? ⟨b,k,none⟩=w.cell? ⟨b,k,none⟩:=fun k=>hb.cell (p:=⟨b,k,none⟩) (show b<n by omega)
  exact⟨pa,pc,ea,ec,(q _).trans h0,(q _).trans h1,Ints.below hb hn h2,h3.below hb hn⟩
theorem EIn.at {n₀:Nat}{w:World}{a:Option Addr}{k cap:Nat}{l:List Ent}(h:EIn n₀ w (.slice a k cap) l){j:Nat}(hj:j<l.length): ∃b off,a=some ⟨b,off,none⟩∧ ∃pa pc ea ec,
  w.cell? ⟨b,off+j*2,none⟩=some (.slice pa l[j].1.length pc)∧w.cell? ⟨b,off+j*2+1,none⟩=some (.slice ea l[j].2.length ec)∧Ints n₀ w (.slice pa l[j].1.length pc) l[j].1∧Els n₀ w (.slice ea l[j].2.length ec) l[j].2:=by
 rcases h with ⟨a',cap',e,rfl⟩ | ⟨b,off,cap',e,hlt,hc⟩
 ·simp at hj
 ·cases e
  exact⟨b,off,rfl,hc j hj⟩
end Go.Proofs.YtpfkoldfbecdlaaGreatDoor
