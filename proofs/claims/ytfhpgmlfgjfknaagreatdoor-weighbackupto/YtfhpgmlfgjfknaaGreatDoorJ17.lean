/- Contracts and lemmas (nothing is claimed here). -/
import Derived.Test.YtfhpgmlfgjfknaaGreatDoorJ16
import Derived.Lib.SliceRun
import Derived.Lib.Walk
namespace Go.Proofs.YtfhpgmlfgjfknaaGreatDoor
open Go.RowKit Go.Vf Go.Maps
def asb (r:Except (Int×Int) (List Ent))(w:World)(e:Ending)(w':World):Prop:=
 Below w.heap.size w w'∧match r with
  | .error (why,line)=>e=.returned (.tuple #[.pointer none,.int .i64 why,.int .i64 line])
  | .ok E=> ∃T me ml val,e=.returned (.tuple #[.pointer (some ⟨T,0,none⟩),.int .i64 0,.int .i64 0])∧TabAt w' T me ml val E
theorem ag2 {tmps:Array Value}{w:World}{a b c:Value}(t2:tmps[2]?.getD undef=a)(t3:tmps[3]?.getD undef=b)(t4:tmps[4]?.getD undef=c):(results Tryz.f22 tmps).run Tryz.prog w=.ok (.tuple #[a,b,c]) w:=by
 simp[results,Tryz.results22,go_sem,t2,t3,t4]
theorem a4i (val:List Int→Value):aml val []=fun _=>none:=by funext l;simp[aml]
theorem azv:alm []=fun _=>none:=by funext x;simp[alm,ab0]
theorem ayo (E:List Ent)(o:Option Ent)(h:E.length≤4096):(ah5 E o).2.length≤4096:=by
 unfold ah5
 split
 ·exact h
 ·split
  ·split
   ·exact h
   ·split
    ·exact h
    ·simp;omega
  ·exact h
theorem a5y (w:World):TabAt (((w.alloc (.map #[] 0)).alloc (.map #[] 0)).alloc (.cells #[.map (some w.heap.size),.map (some (w.heap.size+1))] 118)) (w.heap.size+1+1) w.heap.size (w.heap.size+1) (fun _=>.slice none 0 0) []:=by
 have h1:=MapR.made w
 have h2:=MapAt.made (w.alloc (.map #[] 0))
 have h3:=Blk.new ((w.alloc (.map #[] 0)).alloc (.map #[] 0)) 118 #[.map (some w.heap.size),.map (some (w.heap.size+1))]
 rw[show (w.alloc (.map #[] 0)).heap.size=w.heap.size+1 by simp] at h2
 rw[show ((w.alloc (.map #[] 0)).alloc (.map #[] 0)).heap.size=w.heap.size+1+1 by simp] at h3
 refine⟨h3,?_,?_,by omega,by simp,by simp⟩
 ·rw[a4i]
  exact(h1.block (w':=(w.alloc (.map #[] 0)).alloc (.map #[] 0)) (Below.heap_alloc _ _ _ (by simp))).block (Below.heap_alloc _ _ _ (by simp;omega))
 ·rw[azv]
  exact h2.alloc _
set_option maxHeartbeats 2000000 in
set_option maxRecDepth 20000 in
theorem az1 (s:ByteArray)(m:Int)(w:World)(hm:w.cell? ⟨2,0,none⟩=some (.int .i64 m))(hbig:s.size≤281474976710656):
  Calls Tryz.prog 22 #[.string s] w fun e w'=>asb (ab9 s.data.toList) w e w':=by
 have hmm:= @run_makeMap Tryz.prog
 have hsl:s.data.toList.length=s.size:=(Lib.size_eq s).symm
 have hlt0:2<w.heap.size:=World.block_lt_of_cell? w _ hm
 by_cases hlong:65536<s.size
 ·have hR:ab9 s.data.toList=.error (2,0):=by unfold ab9;rw[if_pos (by omega)]
  rw[hR]
  clear hR
  go_enter Tryz.func22,Tryz.ntmps22
  go_wp2_with fail
  refine bodyPost_ret (ag2 rfl rfl rfl) rfl ?_
  exact⟨Below.refl _ _,rfl⟩
 ·have hs:s.size≤65536:=by omega
  have hR:ab9 s.data.toList=aey (aa3 10 s.data.toList) 0 []:=by unfold ab9;rw[if_neg (by omega)]
  have hcs:=abj 10 s.data.toList
  have hcl:=abl 10 s.data.toList
  have hsp:=fun(W:World)=>ad3 10 s m W hs
  rw[hR]
  generalize aa3 10 s.data.toList=C at hcs hcl hsp
  generalize hQ:aey C 0 []=R
  have HR:Hid (aey C 0 []=R):=hQ
  clear hR hQ
  have htn:=a5y w
  have hbn:Below w.heap.size w (((w.alloc (.map #[] 0)).alloc (.map #[] 0)).alloc (.cells #[.map (some w.heap.size),.map (some (w.heap.size+1))] 118)):=(((Below.refl w.heap.size w).alloc (Nat.le_refl _) _).alloc (by simp) _).alloc (by simp;omega) _
  have hm1:=(hbn.cell (p:=⟨2,0,none⟩) hlt0).trans hm
  go_enter Tryz.func22,Tryz.ntmps22
  go_upto_region 4 with fail
  generalize ((w.alloc (.map #[] 0)).alloc (.map #[] 0)).alloc (.cells #[.map (some w.heap.size),.map (some (w.heap.size+1))] 118)=W at htn hbn hm1⊢
  have HBm:Hid (w.heap.size≤w.heap.size+1):=Nat.le_succ _
  generalize hml:w.heap.size+1=ml at htn HBm
  generalize hT:ml+1=T at htn
  try rw[hml]
  try rw[hT]
  clear hml hT
  go_wp2_with fail
  refine(hsp W hm1).mono ?_
  rintro _ w1 ⟨rfl,hst,hb1,hsz1⟩
  have ht1:=htn.below hb1
  have hbw1:Below w.heap.size w w1:=hbn.trans (hb1.mono hbn.size)
  have hlt1:W.heap.size<w1.heap.size:=by omega
  clear hsz1 hb1 htn hsp hbn hm1
  go_wp2_with fail
  go_loopw [19] (fun i wr=> ∃(k:Nat) (acc:List Ent) (val:List Int→Value),k≤C.length∧i=.int .i64 k∧TabAt wr T w.heap.size ml val acc∧acc.length≤4096∧Hid (aey (C.drop k) (k:Int) acc=R)∧Strs wr W.heap.size C∧Below w.heap.size w wr) (fun i _=>C.length-(intOf i).toNat)
  case atStart=>exact⟨0,[],_,by omega,rfl,ht1,by simp,HR,hst,hbw1⟩
  case round=>
   clear HR ht1 hst hbw1
   obtain⟨k,acc,val,hk,rfl,htk,hacc,HK,hstk,hbel⟩:=hrel
   by_cases hlt:k<C.length
   ·have hd:C.drop k=C[k]::C.drop (k+1):=List.drop_eq_getElem_cons hlt
    have hck:=hstk.cell hlt
    have hkl:=hcs C[k] (List.getElem_mem hlt)
    have hszk:(bsz C[k]).size≤65536:=by simp[ByteArray.size];omega
    have hdat:C[k]=(bsz C[k]).data.toList:=by simp
    generalize bsz C[k]=t at hck hszk hdat
    rw[hdat] at hd
    cases hsil:aav t.data.toList with
    | true=>
     have HK2:Hid (aey (C.drop (k+1)) ((k:Int)+1) acc=R):=by show _=_;rw[←HK.out,hd,aey,if_pos hsil]
     clear HK hd hdat
     by_cases hemp:t.data.toList=[]
     ·have hemp':t.toList.isEmpty=true:=by rw[ByteArray.toList_eq];simpa using hemp
      clear hsil hemp
      go_wp2_with fail
      go_roundw
      case rel=>exact⟨k+1,acc,val,by omega,by simp,htk,hacc,by simpa using HK2,hstk,hbel⟩
      case measure=>simp only[intOf];omega
     ·have hemp':t.toList.isEmpty=false:=by rw[ByteArray.toList_eq];simpa using hemp
      have hpos:0<t.size:=by rw[Lib.size_eq];exact List.length_pos_iff.2 hemp
      have he':(t[0].toNat:Int)=35:=by
       unfold aav at hsil
       rw[ae6 t hpos] at hsil
       have hne:t.data.toList.isEmpty=false:=by simpa using hemp
       rw[hne] at hsil
       simp at hsil
       rw[hsil];rfl
      have he:((t[0].toNat:Int)==35)=true:=by simpa using he'
      clear hsil hemp
      go_wp2_with fail
      go_roundw
      case rel=>exact⟨k+1,acc,val,by omega,by simp,htk,hacc,by simpa using HK2,hstk,hbel⟩
      case measure=>simp only[intOf];omega
    | false=>
     have hemp:t.data.toList≠ []:=fun e=>by simp[aav,e] at hsil
     have hemp':t.toList.isEmpty=false:=by rw[ByteArray.toList_eq];simpa using hemp
     have hpos:0<t.size:=by rw[Lib.size_eq];exact List.length_pos_iff.2 hemp
     have he': ¬(t[0].toNat:Int)=35:=by
      unfold aav at hsil
      rw[ae6 t hpos] at hsil
      have hne:t.data.toList.isEmpty=false:=by simpa using hemp
      rw[hne] at hsil
      simp at hsil
      intro e
      exact hsil (UInt8.toNat_inj.1 (by
       have:t[0].toNat=35:=by omega
       simpa using this))
     have he:((t[0].toNat:Int)==35)=false:=by simpa using he'
     have HK1:Hid (R=if (ah5 acc (aee t.data.toList)).1=0 then aey (C.drop (k+1)) ((k:Int)+1) (ah5 acc (aee t.data.toList)).2 else .error ((ah5 acc (aee t.data.toList)).1,(k:Int)+1)):=by show _=_;rw[←HK.out,hd,ayq _ _ _ _ hsil]
     have hmw:=(hbel.cell (p:=⟨2,0,none⟩) hlt0).trans hm
     have htk2:=a2g w.heap.size T w.heap.size ml val acc hacc t m wr hszk hmw (Nat.le_refl _) HBm.out htk
     have hac2:=ayo acc (aee t.data.toList) hacc
     generalize ah5 acc (aee t.data.toList)=q at HK1 htk2 hac2
     obtain⟨q1,q2⟩:=q
     simp only at HK1 htk2 hac2
     clear HK hd hsil hemp hdat he' htk
     go_wp2_with fail
     refine htk2.mono ?_
     rintro _ w2 ⟨rfl,⟨val',ht2⟩,hb2,hk2⟩
     have hst2:Strs w2 W.heap.size C:=hk2 _ _ _ hstk
     have hbel2:=hbel.trans hb2
     by_cases h0:q1=0
     ·have HK2:Hid (aey (C.drop (k+1)) ((k:Int)+1) q2=R):=by show _=_;rw[HK1.out,if_pos h0]
      have b0:(q1 !=0)=false:=by rw[h0];rfl
      clear HK1 h0
      go_wp2_with fail
      go_roundw
      case rel=>exact⟨k+1,q2,val',by omega,by simp,ht2,hac2,by simpa using HK2,hst2,hbel2⟩
      case measure=>simp only[intOf];omega
     ·have hRe:R=.error (q1,(k:Int)+1):=by rw[HK1.out,if_neg h0]
      have b0:(q1 !=0)=true:=by rw[bne_iff_ne];exact h0
      clear HK1 h0
      go_wp2_with fail
      refine bodyPost_ret (ag2 rfl rfl rfl) rfl ?_
      exact⟨hbel2,by rw[hRe];rfl⟩
   ·have hRs:R=.ok acc:=by rw[←HK.out,List.drop_of_length_le (by omega)];rfl
    clear HK
    go_wp2_with fail
    refine bodyPost_ret (ag2 rfl rfl rfl) rfl ?_
    exact⟨hbel,by rw[hRs];exact⟨T,_,_,_,rfl,htk⟩⟩
theorem avy {n₀:Nat}{w:World}{b off n c:Nat}{l:List El}(h:Els n₀ w (.slice (some ⟨b,off,none⟩) n c) l)(j:Nat)(u:Value)(hu:(aji l)[j]? =some u):w.cell? ⟨b,off+j,none⟩=some u:=by
 have hj:j<(aji l).length:=(List.getElem?_eq_some_iff.1 hu).1
 rw[agp] at hj
 have hq:j/4<l.length:=by omega
 rcases h with ⟨a,cap,e,rfl⟩ | ⟨b',off',cap,e,hlt,hc⟩
 ·simp at hq
 ·cases e
  obtain⟨h0,h1,h2,h3⟩:=hc (j/4) hq
  obtain⟨g0,g1,g2,g3⟩:=a1b l (j/4) hq
  have hm:j % 4=0∨j % 4=1∨j % 4=2∨j % 4=3:=by omega
  rcases hm with hm | hm | hm | hm
  ·have e1:j=j/4*4:=by omega
   rw[e1] at hu
   rw[show off+j=off+j/4*4 by omega,h0,←hu,g0]
  ·have e1:j=j/4*4+1:=by omega
   rw[e1] at hu
   rw[show off+j=off+j/4*4+1 by omega,h1,←hu,g1]
  ·have e1:j=j/4*4+2:=by omega
   rw[e1] at hu
   rw[show off+j=off+j/4*4+2 by omega,h2,←hu,g2]
  ·have e1:j=j/4*4+3:=by omega
   rw[e1] at hu
   rw[show off+j=off+j/4*4+3 by omega,h3,←hu,g3]
theorem avz (l:List El): ∀u∈aji l,u.oneCell'=true:=by
 intro u hu
 unfold aji at hu
 obtain⟨e,_,he⟩:=List.mem_flatMap.1 hu
 simp[elV] at he
 rcases he with rfl | rfl | rfl | rfl<;>rfl
set_option maxHeartbeats 2000000 in
set_option maxRecDepth 100000 in
theorem aob (n₀ b off c:Nat)(l:List El)(w:World)(hl:l.length≤1048576)(h:Els n₀ w (.slice (some ⟨b,off,none⟩) l.length c) l):
  Calls Tryz.prog 89 #[.slice (some ⟨b,off,none⟩) l.length c] w fun e w'=> ∃v',e=.returned v'∧EOwn w' w.heap.size v' l∧Below w.heap.size w w':=by
 obtain⟨i0,hi,hz0,hz1,hz2⟩:=info_parts avq
 have A:Aside (∀j u,(aji l)[j]? =some u→w.cell? ⟨b,off+j,none⟩=some u):=avy h
 clear h
 have q35: ∀(w:World) (a:Option Addr) (n c n' c':Nat),(binOp .eql 71 (.slice a n c) (.slice none n' c')).run Tryz.prog w=.ok (.bool a.isNone) w:=fun w a n c n' c'=>Lib.run_eql_slice_nil w _ _ a n c n' c' Tryz.underlying71
 have u35: ∀w,Sem.run Tryz.prog (underlying 71) w=.ok (TypeDesc.slice 131) w:=run_underlying Tryz.underlying71
 go_enter Tryz.func89,Tryz.ntmps89
 go_wp2_with (at_builtin;refine wpList_append_own _ rfl _ _ 71 rfl w.heap.size 131 i0 _ 4 32 Tryz.underlying71 hi hz0 hz1 hz2 rfl (by decide) _ _ _ rfl (World.ownsRow_made w #[] 0 (Nat.le_refl _) (Nat.zero_le _) rfl) ⟨b,off,none⟩ l.length c (aji l) rfl ?qc1 ?qc2 ?qc3 ?qc4 ?qc5 ?qc6 ?_)
 case qc1=>simp[agp]
 case qc2=>
  intro j u hj
  rw[Addr.add_lit]
  exact Lib.cell?_alloc_some _ (A.out j u hj)
 case qc3=>exact avz l
 case qc4=>unfold maxLen;omega
 case qc5=>omega
 case qc6=>simp
 intro v' w1 hown hgrow hnil
 go_wp2
 go_ret
 refine⟨v',rfl,by simpa[EOwn] using hown,?_⟩
 exact((Below.refl _ w).alloc (Nat.le_refl _) _).grown hgrow (by simp) (by intro k hk;simp[Value.ownBlock] at hk;omega)
set_option maxHeartbeats 1000000 in
set_option maxRecDepth 100000 in
theorem ax0 (w:World):Calls Tryz.prog 89 #[.slice none 0 0] w fun e w'=>e=.returned (.slice none 0 0)∧w'=w:=by
 have q35: ∀(w:World) (a:Option Addr) (n c n' c':Nat),(binOp .eql 71 (.slice a n c) (.slice none n' c')).run Tryz.prog w=.ok (.bool a.isNone) w:=fun w a n c n' c'=>Lib.run_eql_slice_nil w _ _ a n c n' c' Tryz.underlying71
 have u35: ∀w,Sem.run Tryz.prog (underlying 71) w=.ok (TypeDesc.slice 131) w:=run_underlying Tryz.underlying71
 go_enter Tryz.func89,Tryz.ntmps89
 go_wp2
 go_ret
 exact⟨rfl,rfl⟩
def a49 (w:World)(r:Option (List El))(e:Ending)(w':World):Prop:=
 Below w.heap.size w w'∧match r with
  | none=>e=.returned (.tuple #[.slice none 0 0,.bool false])
  | some l=> ∃a n c,e=.returned (.tuple #[.slice a n c,.bool true])∧EOwn w' w.heap.size (.slice a n c) l
theorem a00 {E:List Ent}(hok: ∀e∈E,EntOk e){p:List Int}(hp:adp p=false):aep E p=none:=by
 unfold aep
 rw[Option.map_eq_none_iff,List.find?_eq_none]
 intro e he h
 have:=(hok e he).row
 rw[beq_iff_eq.1 h,hp] at this
 cases this
theorem ahm {E:List Ent}{p:List Int}{l:List El}(h:aep E p=some l):(p,l)∈E:=by
 unfold aep at h
 obtain⟨e,he,rfl⟩:=Option.map_eq_some_iff.1 h
 have h1:=List.mem_of_find?_eq_some he
 have h2:=List.find?_some he
 rw[beq_iff_eq] at h2
 obtain⟨a,b⟩:=e
 simp only at h2
 subst h2
 exact h1
set_option maxHeartbeats 2000000 in
set_option maxRecDepth 20000 in
theorem avv (T me ml n₀:Nat)(val:List Int→Value)(E:List Ent)(v:Value)(zs:List Int)(w:World)(ht:TabAt w T me ml val E)(hn₀:n₀≤w.heap.size)(hin:Ints n₀ w v zs)(hll:zs.length≤4611686018427387904):
  Calls Tryz.prog 106 #[.pointer (some ⟨T,0,none⟩),v] w fun e w'=>a49 w (aep E zs) e w':=by
 obtain⟨a,cap,hv⟩: ∃a cap,v=.slice a zs.length cap:=by
  rcases hin with ⟨a,cap,rfl,rfl⟩ | ⟨b,off,cap,rfl,_⟩
  ·exact⟨_,_,rfl⟩
  ·exact⟨_,_,rfl⟩
 subst hv
 have hro:=alc n₀ _ zs w hn₀ hin hll
 unfold avr at hro
 cases hp:adp zs with
 | false=>
  rw[hp] at hro
  rw[a00 ht.ok hp]
  simp only[Bool.false_eq_true,if_false] at hro
  rw[show ang ahy=.agg #[.int .i64 0,.int .i64 0,.int .i64 0,.int .i64 0,.int .i64 0,.int .i64 0,.int .i64 0,.int .i64 0] from rfl] at hro
  clear hin hp
  go_enter Tryz.func106,Tryz.ntmps106
  go_wp2_with fail
  refine hro.mono ?_
  rintro _ w1 ⟨rfl,hb1⟩
  have hb2:=hb1.alloc hb1.size (.cells #[.int .i64 0,.int .i64 0,.int .i64 0,.int .i64 0,.int .i64 0,.int .i64 0,.int .i64 0,.int .i64 0] 162)
  go_wp2
  go_ret2
  exact⟨hb2,rfl⟩
 | true=>
  rw[hp] at hro
  simp only[if_true] at hro
  obtain⟨a0,a1,a2,a3,a4,a5,a6,a7,hp8⟩:=arq (ael (abf hp).2)
  have hrow:ang (acu zs)=.agg #[.int .i64 a0,.int .i64 a1,.int .i64 a2,.int .i64 a3,.int .i64 a4,.int .i64 a5,.int .i64 a6,.int .i64 a7]:=by rw[hp8];rfl
  rw[hrow] at hro
  have hfs: ∀l,aep E zs=some l→(zs,l)∈E:=fun l h=>ahm h
  have hhf:=a0r E zs
  generalize aep E zs=R at hfs hhf⊢
  clear hin hp8
  go_enter Tryz.func106,Tryz.ntmps106
  go_wp2_with fail
  refine hro.mono ?_
  rintro _ w1 ⟨rfl,hb1⟩
  have hb2:=hb1.alloc hb1.size (.cells #[.int .i64 a0,.int .i64 a1,.int .i64 a2,.int .i64 a3,.int .i64 a4,.int .i64 a5,.int .i64 a6,.int .i64 a7] 162)
  have ht2:=ht.below hb2
  have hB2:=Blk.new w1 162 #[.int .i64 a0,.int .i64 a1,.int .i64 a2,.int .i64 a3,.int .i64 a4,.int .i64 a5,.int .i64 a6,.int .i64 a7]
  go_upto_region 6 with fail
  generalize (w1.alloc (.cells #[.int .i64 a0,.int .i64 a1,.int .i64 a2,.int .i64 a3,.int .i64 a4,.int .i64 a5,.int .i64 a6,.int .i64 a7] 162))=W at hb2 ht2 hB2⊢
  have hlk:=(show MapR W.drew me E.length (aml val E) from ht2.ents.block rfl).look_ok (aya _) (aqc hp)
  rw[hrow] at hlk
  have hef:aml val E (acu zs)=if akf E zs then some (val (acu zs)) else none:=by unfold aml;rw[al4 ht2.ok hp]
  rw[hef,hhf] at hlk
  have t0:W.cell? ⟨T,0,none⟩=some (.map (some me)):=ht2.blk.cell 0
  obtain⟨c0,c1,c2,c3,c4,c5,c6,c7,_⟩:=hB2.c8
  clear hef hhf hrow hro
  cases R with
  | none=>
   simp only[Option.isSome,Bool.false_eq_true,if_false,Option.getD] at hlk
   go_region
   go_wp2_with fail
   refine(ax0 _).mono ?_
   rintro _ w3 ⟨rfl,rfl⟩
   go_wp2
   go_ret2
   exact⟨hb2.drew,rfl⟩
  | some l=>
   simp only[Option.isSome,if_true,Option.getD] at hlk
   have hmem:=hfs l rfl
   have hel:=ht2.els (zs,l) hmem
   have hok:=ht2.ok (zs,l) hmem
   simp only at hel
   have hl0:1≤l.length:=hok.n0
   have hl1:l.length≤16:=hok.n1
   generalize val (acu zs)=vv at hlk hel
   obtain⟨b,off,cv,rfl⟩: ∃b off cv,vv=.slice (some ⟨b,off,none⟩) l.length cv:=by
    rcases hel with ⟨_,_,_,rfl⟩ | ⟨b,off,cv,rfl,_⟩
    ·simp at hl0
    ·exact⟨b,off,cv,rfl⟩
   have hcl:=aob W.heap.size b off cv l W.drew (by omega) hel
   have hlw:w.heap.size≤W.heap.size:=hb2.size
   clear hfs hmem hel hok ht2 hB2
   go_region
   go_wp2_with fail
   refine hcl.mono ?_
   rintro _ w3 ⟨v',rfl,hown,hb3⟩
   obtain⟨av,cv',rfl⟩:=aax hown
   have hbz:Below w.heap.size w w3:=hb2.trans ((show Below W.heap.size W w3 from((Below.refl _ W).drew).trans hb3).mono hlw)
   go_wp2
   go_ret2
   exact⟨hbz,_,_,_,rfl,aai hown hlw⟩
set_option maxHeartbeats 1000000 in
theorem alk (T me ml:Nat)(val:List Int→Value)(E:List Ent)(x:Int)(hx:InI x)(w:World)(ht:TabAt w T me ml val E):
  Calls Tryz.prog 209 #[.pointer (some ⟨T,0,none⟩),.int .i64 x] w fun e w'=>e=.returned (.int .i64 (ab0 E x:Int))∧w=w':=by
 have t1:w.cell? ⟨T,1,none⟩=some (.map (some ml)):=ht.blk.cell 1
 have hl:=ht.longs.look Tryz.underlying116 (ax9 w) hx
 rw[aqz] at hl
 generalize ab0 E x=L at hl⊢
 go_enter Tryz.func209,Tryz.ntmps209
 go_wp2
 go_ret
 exact⟨rfl,rfl⟩
end Go.Proofs.YtfhpgmlfgjfknaaGreatDoor
namespace Go.Vf
def ad2:List Ent→List UInt8
 | []=>[]
 | x::r=>ahb x++r.flatMap fun y=>10::ahb y
theorem a1h: ∀(r:List Ent) (x:Ent),(∀y∈x::r,EntOk y)→aa3 10 (ad2 (x::r))=(x::r).map ahb:=by
 intro r
 induction r with
 | nil=>
  intro x h
  simp only[ad2,List.flatMap_nil,List.append_nil,List.map_cons,List.map_nil]
  exact ac9 10 _ (auc (h x (by simp))).1
 | cons z t ih=>
  intro x h
  have hz:=ih z (fun y hy=>h y (by simp[hy]))
  simp only[ad2] at hz
  simp only[ad2,List.flatMap_cons,List.cons_append]
  rw[ace 10 _ _ (auc (h x (by simp))).1,hz]
  try rfl
theorem a6l {E:List Ent}{p:List Int}(h:p∉E.map Prod.fst):akf E p=false:=by
 unfold akf
 rw[List.any_eq_false]
 intro e he hq
 rw[beq_iff_eq] at hq
 exact h (hq▸List.mem_map_of_mem he)
theorem a2m: ∀(l:List Ent) (n:Int) (acc:List Ent),(∀x∈l,EntOk x)→((acc++l).map Prod.fst).Nodup→(acc++l).length≤4096→aey (l.map ahb) n acc=.ok (acc++l):=by
 intro l
 induction l with
 | nil=>intro n acc _ _ _;simp[aey]
 | cons x r ih=>
  intro n acc h1 h2 h3
  have hx:=h1 x (by simp)
  have hno:x.1∉acc.map Prod.fst:=by
   intro hm
   rw[List.map_append,List.nodup_append] at h2
   exact h2.2.2 _ hm _ (by simp) rfl
  rw[List.map_cons,aey,(auc hx).2]
  simp only[Bool.false_eq_true,if_false]
  rw[a08 hx]
  simp only
  rw[if_pos hx.ok,a6l hno]
  simp only[Bool.false_eq_true,if_false]
  rw[if_neg (by simp at h3;omega)]
  have:=ih (n+1) (acc++[x]) (fun y hy=>h1 y (by simp[hy])) (by simpa using h2) (by simpa using h3)
  rw[this]
  simp
theorem atp {l:List Ent}(h1: ∀x∈l,EntOk x)(h2:(l.map Prod.fst).Nodup)(h3:l.length≤4096)(h4:(ad2 l).length≤65536):ab9 (ad2 l)=.ok l:=by
 unfold ab9
 rw[if_neg (by omega)]
 cases l with
 | nil=>rfl
 | cons x r=>
  rw[a1h r x h1]
  exact a2m (x::r) 0 [] h1 h2 h3
def akm (l:List Ent):Nat:=(l.map fun x=>(ahb x).length+1).sum
theorem axd {a b:List Ent}(h:a.Perm b):akm a=akm b:=(h.map _).sum_nat
theorem axc (l:List Ent)(x:Ent):akm (l++[x])=akm l+((ahb x).length+1):=by simp[akm]
theorem ayn: ∀(l:List Ent),l≠ []→(ad2 l).length+1=akm l:=by
 intro l h
 cases l with
 | nil=>exact absurd rfl h
 | cons x r=>
  have: ∀r:List Ent,(r.flatMap fun y=>10::ahb y).length=akm r:=by
   intro r
   induction r with
   | nil=>rfl
   | cons y t ih=>simp only[List.flatMap_cons,List.length_append,ih,akm,List.map_cons,List.sum_cons];simp
  simp only[ad2,List.length_append,this]
  simp only[akm,List.map_cons,List.sum_cons]
  omega
theorem ayr: ∀(C:List (List UInt8)) (n:Int) (acc E:List Ent),aey C n acc=.ok E→akm E≤akm acc+(C.map (fun s=>s.length+1)).sum:=by
 intro C
 induction C with
 | nil=>intro n acc E h;simp[aey] at h;subst h;simp
 | cons s r ih=>
  intro n acc E h
  unfold aey at h
  split at h
  ·have:=ih _ _ _ h
   simp only[List.map_cons,List.sum_cons]
   omega
  ·split at h
   ·cases h
   ·rename_i x hx
    split at h
    ·split at h
     ·cases h
     ·split at h
      ·cases h
      ·have h1:=ih _ _ _ h
       have h2:=congrArg List.length (arl hx)
       rw[axc] at h1
       simp only[List.map_cons,List.sum_cons]
       omega
    ·cases h
theorem a1j (c:UInt8): ∀(s:List UInt8),((aa3 c s).map (fun x=>x.length+1)).sum=s.length+1:=by
 intro s
 induction s with
 | nil=>rfl
 | cons b r ih=>
  unfold aa3
  split
  ·simp only[List.map_cons,List.sum_cons,ih,List.length_nil,List.length_cons];omega
  ·cases hc:aa3 c r with
   | nil=>exact absurd hc (aig c r)
   | cons h t=>
    rw[hc] at ih
    simp only[List.map_cons,List.sum_cons,List.length_cons] at ih⊢
    omega
theorem ah4 {s:List UInt8}{E l:List Ent}(h:ab9 s=.ok E)(hp:l.Perm E):(ad2 l).length≤s.length:=by
 unfold ab9 at h
 split at h
 ·cases h
 ·have h1:=ayr _ _ _ _ h
  rw[a1j] at h1
  have h2:=axd hp
  cases hl:l with
  | nil=>simp[ad2]
  | cons x r=>
   have h3:=ayn l (by rw[hl];simp)
   rw[←hl]
   simp[akm] at h1 h2 h3
   omega
def aaj:List Int→List Int→Int
 | [],[]=>0
 | [],_::_=> -1
 | _::_,[]=>1
 | a::r,b::t=>if a<b then -1 else if b<a then 1 else aaj r t
theorem ac4: ∀a:List Int,aaj a a=0:=by
 intro a
 induction a with
 | nil=>rfl
 | cons x r ih=>simp[aaj,ih]
theorem amg: ∀a b:List Int,aaj a b=0→a=b:=by
 intro a
 induction a with
 | nil=>intro b h;cases b with
  | nil=>rfl
  | cons y t=>simp[aaj] at h
 | cons x r ih=>
  intro b h
  cases b with
  | nil=>simp[aaj] at h
  | cons y t=>
   unfold aaj at h
   split at h
   ·cases h
   ·split at h
    ·cases h
    ·rw[ih t h,show x=y by omega]
theorem aeb: ∀a b c:List Int,aaj a b<0→aaj b c<0→aaj a c<0:=by
 intro a
 induction a with
 | nil=>
  intro b c h1 h2
  cases b with
  | nil=>simp[aaj] at h1
  | cons y t=>cases c with
   | nil=>simp[aaj] at h2
   | cons z u=>simp[aaj]
 | cons x r ih=>
  intro b c h1 h2
  cases b with
  | nil=>simp[aaj] at h1
  | cons y t=>cases c with
   | nil=>simp[aaj] at h2
   | cons z u=>
    unfold aaj at h1 h2⊢
    by_cases hxy:x<y
    ·by_cases hyz:y<z
     ·rw[if_pos (by omega)];decide
     ·rw[if_neg hyz] at h2
      split at h2
      ·omega
      ·rw[if_pos (by omega)];decide
    ·rw[if_neg hxy] at h1
     split at h1
     ·omega
     ·by_cases hyz:y<z
      ·rw[if_pos (by omega)];decide
      ·rw[if_neg hyz] at h2
       split at h2
       ·omega
       ·rw[if_neg (by omega),if_neg (by omega)]
        exact ih t u h1 h2
end Go.Vf
namespace Go.Proofs.YtfhpgmlfgjfknaaGreatDoor
open Go.RowKit Go.Vf Go.Maps
theorem ajv {n₀:Nat}{w:World}{a:Option Addr}{k cap:Nat}{zs:List Int}(h:Ints n₀ w (.slice a k cap) zs){j:Nat}(hj:j<zs.length): ∃b off,a=some ⟨b,off,none⟩∧w.cell? ⟨b,off+j,none⟩=some (.int .i64 zs[j]):=by
 rcases h with ⟨a',cap',e,rfl⟩ | ⟨b,off,cap',e,hb,hc⟩
 ·simp at hj
 ·cases e
  refine⟨b,off,rfl,?_⟩
  have:=hc j hj
  rw[List.getElem?_eq_getElem hj] at this
  exact this
theorem ai7 {n₀:Nat}{w:World}{v:Value}{zs:List Int}(h:Ints n₀ w v zs): ∃a cap,v=.slice a zs.length cap:=by
 rcases h with ⟨a,cap,rfl,rfl⟩ | ⟨b,off,cap,rfl,_⟩
 ·exact⟨_,_,rfl⟩
 ·exact⟨_,_,rfl⟩
theorem a8f (x y:Int):Lib.compareInt x y=if x<y then -1 else if y<x then 1 else 0:=by
 unfold Lib.compareInt
 split
 ·rfl
 ·split<;>first | rfl | omega
set_option maxHeartbeats 2000000 in
set_option maxRecDepth 20000 in
theorem akg (n₁ n₂:Nat)(va vb:Value)(a b:List Int)(w:World)(ha:Ints n₁ w va a)(hb:Ints n₂ w vb b)(hla:a.length≤4611686018427387904)(hlb:b.length≤4611686018427387904):
  Calls Tryz.prog 83 #[va,vb] w fun e w'=>e=.returned (.int .i64 (aaj a b))∧w=w':=by
 obtain⟨aa,ca,rfl⟩:=ai7 ha
 obtain⟨ab,cb,rfl⟩:=ai7 hb
 generalize hR:aaj a b=R
 have HR:Hid (aaj (a.drop 0) (b.drop 0)=R):=hR
 clear hR
 go_enter Tryz.func83,Tryz.ntmps83
 go_wp2_with fail
 go_loopw [11] (fun i wr=> ∃k:Nat,k≤a.length∧k≤b.length∧i=.int .i64 k∧Hid (aaj (a.drop k) (b.drop k)=R)∧wr=w) (fun i _=>a.length-(intOf i).toNat)
 case atStart=>exact⟨0,by omega,by omega,rfl,HR,rfl⟩
 case round=>
  clear HR
  obtain⟨k,hk,hkb,rfl,HK,rfl⟩:=hrel
  by_cases hlt:k<a.length
  ·obtain⟨b1,o1,rfl,x1⟩:=ajv ha hlt
   have hd1:a.drop k=a[k]::a.drop (k+1):=List.drop_eq_getElem_cons hlt
   by_cases hltb:k<b.length
   ·obtain⟨b2,o2,rfl,x2⟩:=ajv hb hltb
    have hd2:b.drop k=b[k]::b.drop (k+1):=List.drop_eq_getElem_cons hltb
    have hKK:=HK.out
    rw[hd1,hd2] at hKK
    have hc:=Tryz.cmp_Compare_int a[k] b[k] wr
    rw[a8f] at hc
    generalize a[k]=x at x1 hKK hc
    generalize b[k]=y at x2 hKK hc
    unfold aaj at hKK
    clear HK hd1 hd2
    by_cases h1:x<y
    ·rw[if_pos h1] at hKK hc
     have HRn:Hid (R= -1):=hKK.symm
     clear hKK h1
     go_wp2_with fail
     refine hc.mono ?_
     rintro _ w1 ⟨rfl,rfl⟩
     go_wp2
     go_ret
     exact⟨by rw[HRn.out];rfl,rfl⟩
    ·rw[if_neg h1] at hKK hc
     by_cases h2:y<x
     ·rw[if_pos h2] at hKK hc
      have HRn:Hid (R=1):=hKK.symm
      clear hKK h1 h2
      go_wp2_with fail
      refine hc.mono ?_
      rintro _ w1 ⟨rfl,rfl⟩
      go_wp2
      go_ret
      exact⟨by rw[HRn.out];rfl,rfl⟩
     ·rw[if_neg h2] at hKK hc
      have HK2:Hid (aaj (a.drop (k+1)) (b.drop (k+1))=R):=hKK
      clear hKK h1 h2
      go_wp2_with fail
      refine hc.mono ?_
      rintro _ w1 ⟨rfl,rfl⟩
      go_wp2
      go_roundw
      case rel=>exact⟨k+1,by omega,by omega,by simp,HK2,trivial⟩
      case measure=>simp only[intOf];omega
   ·have hRn:R=1:=by
     rw[←HK.out,hd1,show b.drop k=[] from List.drop_of_length_le (by omega)];rfl
    clear HK hd1
    go_wp2
    go_ret
    exact⟨by rw[hRn];rfl,rfl⟩
  ·by_cases hltb:k<b.length
   ·have hRn:R= -1:=by
     rw[←HK.out,show a.drop k=[] from List.drop_of_length_le (by omega),List.drop_eq_getElem_cons hltb];rfl
    have hl:a.length<b.length:=by omega
    clear HK
    go_wp2
    go_ret
    exact⟨by rw[hRn];rfl,rfl⟩
   ·have hRn:R=0:=by
     rw[←HK.out,show a.drop k=[] from List.drop_of_length_le (by omega),show b.drop k=[] from List.drop_of_length_le (by omega)];rfl
    have hl: ¬a.length<b.length:=by omega
    clear HK
    go_wp2
    go_ret
    exact⟨by rw[hRn];rfl,rfl⟩
def EIn (n₀:Nat)(w:World)(v:Value)(l:List Ent):Prop:=
 (∃a cap,v=.slice a 0 cap∧l=[])∨ ∃b off cap,v=.slice (some ⟨b,off,none⟩) l.length cap∧b<n₀∧ ∀j (hj:j<l.length),∃pa pc ea ec,
  w.cell? ⟨b,off+j*2,none⟩=some (.slice pa l[j].1.length pc)∧w.cell? ⟨b,off+j*2+1,none⟩=some (.slice ea l[j].2.length ec)∧Ints n₀ w (.slice pa l[j].1.length pc) l[j].1∧Els n₀ w (.slice ea l[j].2.length ec) l[j].2
theorem EIn.val {n₀:Nat}{w:World}{v:Value}{l:List Ent}(h:EIn n₀ w v l): ∃a cap,v=.slice a l.length cap:=by
 rcases h with ⟨a,cap,rfl,rfl⟩ | ⟨b,off,cap,rfl,_⟩
 ·exact⟨a,cap,rfl⟩
 ·exact⟨_,cap,rfl⟩
theorem EIn.below {n₀ n:Nat}{w w':World}{v:Value}{l:List Ent}(h:EIn n₀ w v l)(hb:Below n w w')(hn:n₀≤n):EIn n₀ w' v l:=by
 rcases h with h | ⟨b,off,cap,e,hlt,hc⟩
 ·exact .inl h
 ·refine .inr ⟨b,off,cap,e,hlt,fun j hj=> ?_⟩
  obtain⟨pa,pc,ea,ec,h0,h1,h2,h3⟩:=hc j hj
  have q: ∀k,w'.cell? ⟨b,k,none⟩=w.cell? ⟨b,k,none⟩:=fun k=>hb.cell (p:=⟨b,k,none⟩) (show b<n by omega)
  exact⟨pa,pc,ea,ec,(q _).trans h0,(q _).trans h1,Ints.below hb hn h2,h3.below hb hn⟩
theorem EIn.at {n₀:Nat}{w:World}{a:Option Addr}{k cap:Nat}{l:List Ent}(h:EIn n₀ w (.slice a k cap) l){j:Nat}(hj:j<l.length): ∃b off,a=some ⟨b,off,none⟩∧ ∃pa pc ea ec,
  w.cell? ⟨b,off+j*2,none⟩=some (.slice pa l[j].1.length pc)∧w.cell? ⟨b,off+j*2+1,none⟩=some (.slice ea l[j].2.length ec)∧Ints n₀ w (.slice pa l[j].1.length pc) l[j].1∧Els n₀ w (.slice ea l[j].2.length ec) l[j].2:=by
 rcases h with ⟨a',cap',e,rfl⟩ | ⟨b,off,cap',e,hlt,hc⟩
 ·simp at hj
 ·cases e
  exact⟨b,off,rfl,hc j hj⟩
end Go.Proofs.YtfhpgmlfgjfknaaGreatDoor
namespace Go.Proofs.YtfhpgmlfgjfknaaGreatDoor
open Go.RowKit Go.Vf
def ak7:Value→Nat
 | .string b=>b.size
 | _=>0
theorem a2o: ∀d,d<16→(⟨#[48,49,50,51,52,53,54,55,56,57,65,66,67,68,69,70]⟩:ByteArray).extract d (d+1)=bsz [acz d]:=by decide
theorem ata: ∀(k n:Nat),abb (k+1) n=acz (n/16^k % 16)::abb k n:=by
 intro k
 induction k with
 | zero=>intro n;simp[abb]
 | succ k ih=>
  intro n
  rw[abb,ih,Nat.div_div_eq_div_mul,Nat.pow_succ,Nat.mul_comm 16]
  try rfl
theorem aoh (a b:List UInt8):bsz a++bsz b=bsz (a++b):=by
 apply ByteArray.ext
 simp
theorem abt (l:List UInt8):(bsz l).size=l.length:=by simp[ByteArray.size]
theorem ay9 {u j:Nat}(h4:4≤j)(h0:u/16^j=0)(hj:j≤4∨16^(j-1)≤u):abb j u=aae u:=by
 have hp:0<16^j:=Nat.pow_pos (by omega)
 have hlt:u<16^j:=by
  rcases Nat.lt_or_ge u (16^j) with h | h
  ·exact h
  ·have:=(Nat.le_div_iff_mul_le hp).2 (by omega:1*16^j≤u);omega
 have h1:=acs u j hlt (by omega)
 rw[aay]
 congr 1
 rcases hj with hj | hj
 ·omega
 ·by_cases h5:j=4
  ·omega
  ·have: ¬(aa1 u).length≤j-1:=fun h=>by have:=adz u _ h;omega
   omega
theorem amc {u n:Nat}{sb:ByteArray}(hu:u<16^6)(h:sb=bsz (abb sb.size u)∧n=u/16^sb.size∧(sb.size≤4∨16^(sb.size-1)≤u))(hc:sb.size<4∨0<n):
  (bsz [acz (n % 16)]++sb).size=sb.size+1∧sb.size+1≤6∧((bsz [acz (n % 16)]++sb)=bsz (abb (bsz [acz (n % 16)]++sb).size u)∧n/16=u/16^(bsz [acz (n % 16)]++sb).size∧((bsz [acz (n % 16)]++sb).size≤4∨16^((bsz [acz (n % 16)]++sb).size-1)≤u)):=by
 obtain⟨h1,h2,h3⟩:=h
 have hge:0<n→16^sb.size≤u:=fun h0=>by
  rcases Nat.lt_or_ge u (16^sb.size) with hl | hl
  ·rw[Nat.div_eq_of_lt hl] at h2;omega
  ·exact hl
 have e:bsz [acz (n % 16)]++sb=bsz (abb (sb.size+1) u):=by
  rw[ata,←h2]
  conv=>lhs;rw[h1]
  rw[aoh]
  try rfl
 have es:(bsz [acz (n % 16)]++sb).size=sb.size+1:=by rw[e,abt,acn]
 rw[es]
 refine⟨rfl,?_,e,?_,?_⟩
 ·rcases hc with hc | hc
  ·omega
  ·have h5:=hge hc
   rcases Nat.lt_or_ge sb.size 6 with hl | hl
   ·omega
   ·have:=Nat.pow_le_pow_right (show 0<16 by omega) hl;omega
 ·rw[h2,Nat.div_div_eq_div_mul,Nat.pow_succ]
 ·rcases hc with hc | hc
  ·exact .inl (by omega)
  ·exact .inr (by rw[Nat.add_sub_cancel];exact hge hc)
set_option maxHeartbeats 1000000 in
theorem aj0 (u:Nat)(hu:u<16^6)(w:World):Calls Tryz.prog 173 #[.int .i64 (u:Int)] w fun e w'=>e=.returned (.string (bsz (aae u)))∧w=w':=by
 have HU:Hid (u<16^6):=hu
 have hu':u<16777216:=hu
 clear hu
 go_enter Tryz.func173,Tryz.ntmps173
 go_wp2_with fail
 go_loopw [0,3] (fun x v wr=> ∃(n:Nat) (sb:ByteArray),x=.int .i64 (n:Int)∧v=.string sb∧sb.size≤6∧n<16777216∧Hid (sb=bsz (abb sb.size u)∧n=u/16^sb.size∧(sb.size≤4∨16^(sb.size-1)≤u))∧wr=w) (fun _ v _=>7-ak7 v)
 case atStart=>exact⟨u,⟨#[]⟩,rfl,rfl,by decide,hu',⟨rfl,by simp[ByteArray.size],.inl (by decide)⟩,rfl⟩
 case round=>
  obtain⟨n,sb,rfl,rfl,hs6,hn,HS,rfl⟩:=hrel
  have hd:=a2o (n % 16) (by omega)
  by_cases h4:sb.size<4
  ·go_wp2_with fail
   obtain⟨q1,q2,q3⟩:=amc HU.out HS.out (.inl h4)
   exact⟨⟨n/16,_,by simp,rfl,by omega,by omega,q3,trivial⟩,by simp only[ak7];omega⟩
  ·by_cases h0:n=0
   ·subst h0
    go_wp2_with fail
    go_ret
    have hS:=HS.out
    have e:bsz (aae u)=sb:=by
     conv=>rhs;rw[hS.1]
     rw[ay9 (by omega) hS.2.1.symm hS.2.2]
    exact⟨by rw[e];rfl,rfl⟩
   ·have h0':0<n:=by omega
    go_wp2_with fail
    obtain⟨q1,q2,q3⟩:=amc HU.out HS.out (.inr h0')
    exact⟨⟨n/16,_,by simp,rfl,by omega,by omega,q3,trivial⟩,by simp only[ak7];omega⟩
end Go.Proofs.YtfhpgmlfgjfknaaGreatDoor
namespace Go.Proofs.YtfhpgmlfgjfknaaGreatDoor
open Go.RowKit Go.Vf Go.Maps
def a0j (n:Int):Bool:=decide (0≤n)&&decide (n≤1114111)&&(decide (n<55296)||decide (57343<n))
theorem ate (n:Int):aed n=(a0j n&& !ab7 n):=rfl
theorem agz (n:Int)(w:World):Calls Tryz.prog 140 #[.int .i64 n] w fun e w'=>e=.returned (.bool (ab7 n))∧w=w':=by
 by_cases h1:44032≤n
 ·by_cases h2:n≤55203
  ·go_enter Tryz.func140,Tryz.ntmps140
   go_wp2
   go_ret
   exact⟨by simp[ab7,h1,h2],rfl⟩
  ·go_enter Tryz.func140,Tryz.ntmps140
   go_wp2
   go_ret
   exact⟨by simp[ab7,h2],rfl⟩
 ·go_enter Tryz.func140,Tryz.ntmps140
  go_wp2
  go_ret
  exact⟨by simp[ab7];omega,rfl⟩
theorem akd (n:Int)(w:World):Calls Tryz.prog 142 #[.int .i64 n] w fun e w'=>e=.returned (.bool (a0j n))∧w=w':=by
 by_cases h1:0≤n
 ·by_cases h2:n≤1114111
  ·by_cases h3:n<55296
   ·go_enter Tryz.func142,Tryz.ntmps142
    go_wp2
    go_ret
    exact⟨by simp[a0j,h1,h2,h3],rfl⟩
   ·by_cases h4:57343<n
    ·go_enter Tryz.func142,Tryz.ntmps142
     go_wp2
     go_ret
     exact⟨by simp[a0j,h1,h2,h4],rfl⟩
    ·go_enter Tryz.func142,Tryz.ntmps142
     go_wp2
     go_ret
     exact⟨by simp[a0j];omega,rfl⟩
  ·go_enter Tryz.func142,Tryz.ntmps142
   go_wp2
   go_ret
   exact⟨by simp[a0j];omega,rfl⟩
 ·go_enter Tryz.func142,Tryz.ntmps142
  go_wp2
  go_ret
  exact⟨by simp[a0j];omega,rfl⟩
def ae8 (d:Nat):UInt8:=UInt8.ofNat (48+d)
def agu:Nat→Nat→List UInt8
 | 0,_=>[]
 | k+1,n=>ae8 (n/10^k % 10)::agu k n
theorem awz: ∀(k n:Nat),(agu k n).length=k:=by
 intro k
 induction k with
 | zero=>intro n;rfl
 | succ k ih=>intro n;simp[agu,ih]
theorem a6g {c j:Nat}(hc:c≤254)(h1:1≤j)(h0:c/10^j=0)(hj:j≤1∨10^(j-1)≤c):agu j c=Lib.itoa (c:Int):=by
 have h3:j≤3:=by
  rcases hj with h | h
  ·omega
  ·rcases Nat.lt_or_ge j 4 with hl | hl
   ·omega
   ·have:=Nat.pow_le_pow_right (show 0<10 by omega) (show 3≤j-1 by omega);omega
 rw[a0h hc]
 unfold axj
 have hj':j=1∨j=2∨j=3:=by omega
 rcases hj' with rfl | rfl | rfl
 ·have:c<10:=by simp at h0;omega
  rw[if_pos this]
  simp[agu,ae8,Nat.mod_eq_of_lt this]
 ·have h5:10≤c∧c<100:=by simp at h0 hj;omega
  rw[if_neg (by omega),if_pos h5.2]
  simp[agu,ae8,show c/10 % 10=c/10 by omega]
 ·have h5:100≤c:=by simp at h0 hj;omega
  rw[if_neg (by omega),if_neg (by omega)]
  simp[agu,ae8,show c/100 % 10=c/100 by omega]
theorem auz {u n:Nat}{sb:ByteArray}(hu:u≤254)(h:sb=bsz (agu sb.size u)∧n=u/10^sb.size∧(sb.size≤1∨10^(sb.size-1)≤u))(hc:sb.size=0∨0<n):
  (bsz [ae8 (n % 10)]++sb).size=sb.size+1∧sb.size+1≤3∧((bsz [ae8 (n % 10)]++sb)=bsz (agu (bsz [ae8 (n % 10)]++sb).size u)∧n/10=u/10^(bsz [ae8 (n % 10)]++sb).size∧((bsz [ae8 (n % 10)]++sb).size≤1∨10^((bsz [ae8 (n % 10)]++sb).size-1)≤u)):=by
 obtain⟨h1,h2,h3⟩:=h
 have hge:0<n→10^sb.size≤u:=fun h0=>by
  rcases Nat.lt_or_ge u (10^sb.size) with hl | hl
  ·rw[Nat.div_eq_of_lt hl] at h2;omega
  ·exact hl
 have e:bsz [ae8 (n % 10)]++sb=bsz (agu (sb.size+1) u):=by
  rw[agu,←h2]
  conv=>lhs;rw[h1]
  rw[aoh]
  try rfl
 have es:(bsz [ae8 (n % 10)]++sb).size=sb.size+1:=by rw[e,abt,awz]
 rw[es]
 refine⟨rfl,?_,e,?_,?_⟩
 ·rcases hc with hc | hc
  ·omega
  ·have h5:=hge hc
   rcases Nat.lt_or_ge sb.size 3 with hl | hl
   ·omega
   ·have:=Nat.pow_le_pow_right (show 0<10 by omega) hl;omega
 ·rw[h2,Nat.div_div_eq_div_mul,Nat.pow_succ]
 ·rcases hc with hc | hc
  ·exact .inl (by omega)
  ·exact .inr (by rw[Nat.add_sub_cancel];exact hge hc)
theorem awg (w:World)(x:UInt8)(c:Nat):(convert 74 9 (.slice (some ⟨w.heap.size,0,none⟩) 1 c)).run Tryz.prog (w.alloc (.cells #[.int .u8 (x.toNat:Int)] 5))=.ok (.string (bsz [x])) (w.alloc (.cells #[.int .u8 (x.toNat:Int)] 5)):=by
 have hb:=Blk.new w 5 #[.int .u8 (x.toNat:Int)]
 have hc:=run_convert_bytes_arg (P:=Tryz.prog) (w.alloc (.cells #[.int .u8 (x.toNat:Int)] 5)) 74 5 Tryz.underlying74 Tryz.underlying5 w.heap.size 0 1 c [(x.toNat:Int)] (by simp) (fun i hi=>by
  obtain rfl:i=0:=by simpa using hi
  rw[hb.cell]
  simp) 9 Tryz.underlying9
 rw[hc]
 have e:strOfNums [(x.toNat:Int)]=bsz [x]:=aps (by rw[strOfNums_data];simp)
 rw[e]
set_option maxHeartbeats 1000000 in
set_option maxRecDepth 20000 in
theorem a5x (u:Nat)(hu:u≤254)(w:World):Calls Tryz.prog 172 #[.int .i64 (u:Int)] w fun e w'=>e=.returned (.string (bsz (Lib.itoa (u:Int))))∧Below w.heap.size w w':=by
 go_enter Tryz.func172,Tryz.ntmps172
 go_wp2_with fail
 go_loopw [0,3] (fun x v wr=> ∃(n:Nat) (sb:ByteArray),x=.int .i64 (n:Int)∧v=.string sb∧sb.size≤3∧n≤254∧Hid (sb=bsz (agu sb.size u)∧n=u/10^sb.size∧(sb.size≤1∨10^(sb.size-1)≤u))∧Below w.heap.size w wr) (fun _ v _=>4-ak7 v)
 case atStart=>exact⟨u,⟨#[]⟩,rfl,rfl,by decide,hu,⟨rfl,by simp[ByteArray.size],.inl (by decide)⟩,Below.refl _ _⟩
 case round=>
  obtain⟨n,sb,rfl,rfl,hs6,hn,HS,hbel⟩:=hrel
  have hx:((ae8 (n % 10)).toNat:Int)=48+(n:Int) % 10:=by
   unfold ae8;rw[UInt8.toNat_ofNat'];omega
  have hone:=awg wr (ae8 (n % 10)) 1
  rw[hx] at hone
  clear hx
  have hb1:=hbel.alloc hbel.size (.cells #[.int .u8 (48+(n:Int) % 10)] 5)
  by_cases h0:sb.size=0
  ·obtain rfl:sb=⟨#[]⟩:=by
    apply ByteArray.ext
    exact Array.eq_empty_of_size_eq_zero h0
   go_wp2_with fail
   obtain⟨q1,q2,q3⟩:=auz hu HS.out (.inl rfl)
   exact⟨⟨n/10,_,by simp,rfl,by omega,by omega,q3,hb1⟩,by simp only[ak7];omega⟩
  ·have hemp:sb.toList.isEmpty=false:=by
    rw[ByteArray.toList_eq,List.isEmpty_eq_false_iff]
    intro e
    exact h0 (by rw[Lib.size_eq,e];rfl)
   by_cases hn0:n=0
   ·subst hn0
    clear hone hb1
    go_wp2_with fail
    go_ret
    have hS:=HS.out
    have e:bsz (Lib.itoa (u:Int))=sb:=by
     conv=>rhs;rw[hS.1]
     rw[a6g hu (by omega) hS.2.1.symm hS.2.2]
    exact⟨by rw[e];rfl,hbel⟩
   ·have hn':0<n:=by omega
    go_wp2_with fail
    obtain⟨q1,q2,q3⟩:=auz hu HS.out (.inr hn')
    exact⟨⟨n/10,_,by simp,rfl,by omega,by omega,q3,hb1⟩,by simp only[ak7];omega⟩
end Go.Proofs.YtfhpgmlfgjfknaaGreatDoor
