/- Contracts and lemmas (nothing is claimed here). -/
import Derived.Test.YtpfkoldfbecdlaaGreatDoorJ25
import Derived.Lib.SliceRun
import Derived.Lib.Walk
import Derived.Test.YtpfkoldfbecdlaaGreatDoorJ18
namespace Go.Proofs.YtpfkoldfbecdlaaGreatDoor
open Go.RowKit Go.Vf Go.Maps
def LoadPost6 (r:Except (Int×Int) (List Ent))(w:World)(e:Ending)(w':World):Prop:=
 Below w.heap.size w w'∧match r with
  | .error (why,line)=>e=.returned (.tuple #[.pointer none,.int .i64 why,.int .i64 line])
  | .ok E=> ∃T me ml val,e=.returned (.tuple #[.pointer (some ⟨T,0,none⟩),.int .i64 0,.int .i64 0])∧TabAt w' T me ml val E
theorem agf {tmps:Array Value}{w:World}{a b c:Value}(t2:tmps[2]?.getD undef=a)(t3:tmps[3]?.getD undef=b)(t4:tmps[4]?.getD undef=c):(results Tryz.f18 tmps).run Tryz.prog w=.ok (.tuple #[a,b,c]) w:=by
 simp[results,Tryz.results18,go_sem,t2,t3,t4]
theorem entF_nil (val:List Int→Value):entF val []=fun _=>none:=by funext l;simp[entF]
theorem longF_nil:longF []=fun _=>none:=by funext x;simp[longF,abw]
theorem takeR_len (E:List Ent)(o:Option Ent)(h:E.length≤4096):(takeR E o).2.length≤4096:=by
 unfold takeR
 split
 ·exact h
 ·split
  ·split
   ·exact h
   ·split
    ·exact h
    ·simp;omega
  ·exact h
theorem tab_new (w:World):TabAt (((w.alloc (.map #[] 0)).alloc (.map #[] 0)).alloc (.cells #[.map (some w.heap.size),.map (some (w.heap.size+1))] 114)) (w.heap.size+1+1) w.heap.size (w.heap.size+1) (fun _=>.slice none 0 0) []:=by
 have h1:=MapR.made w
 have h2:=MapAt.made (w.alloc (.map #[] 0))
 have h3:=Blk.new ((w.alloc (.map #[] 0)).alloc (.map #[] 0)) 114 #[.map (some w.heap.size),.map (some (w.heap.size+1))]
 rw[show (w.alloc (.map #[] 0)).heap.size=w.heap.size+1 by simp] at h2
 rw[show ((w.alloc (.map #[] 0)).alloc (.map #[] 0)).heap.size=w.heap.size+1+1 by simp] at h3
 refine⟨h3,?_,?_,by omega,by simp,by simp⟩
 ·rw[entF_nil]
  exact(h1.block (w':=(w.alloc (.map #[] 0)).alloc (.map #[] 0)) (Below.heap_alloc _ _ _ (by simp))).block (Below.heap_alloc _ _ _ (by simp;omega))
 ·rw[longF_nil]
  exact h2.alloc _
set_option maxHeartbeats 2000000 in
set_option maxRecDepth 20000 in
theorem load_any6 (s:ByteArray)(m:Int)(w:World)(hm:w.cell? ⟨2,0,none⟩=some (.int .i64 m))(hbig:s.size≤281474976710656):
  Calls Tryz.prog 18 #[.string s] w fun e w'=>LoadPost6 (ado s.data.toList) w e w':=by
 have hmm:= @run_makeMap Tryz.prog
 have hsl:s.data.toList.length=s.size:=(Lib.size_eq s).symm
 have hlt0:2<w.heap.size:=World.block_lt_of_cell? w _ hm
 by_cases hlong:65536<s.size
 ·have hR:ado s.data.toList=.error (2,0):=by unfold ado;rw[if_pos (by omega)]
  rw[hR]
  clear hR
  go_enter Tryz.func18,Tryz.ntmps18
  go_wp2_with fail
  refine bodyPost_ret (agf rfl rfl rfl) rfl ?_
  exact⟨Below.refl _ _,rfl⟩
 ·have hs:s.size≤65536:=by omega
  have hR:ado s.data.toList=ae9 (aa7 10 s.data.toList) 0 []:=by unfold ado;rw[if_neg (by omega)]
  have hcs:=abj 10 s.data.toList
  have hcl:=abn 10 s.data.toList
  have hsp:=fun(W:World)=>adv 10 s m W hs
  rw[hR]
  generalize aa7 10 s.data.toList=C at hcs hcl hsp
  generalize hQ:ae9 C 0 []=R
  have HR:Hid (ae9 C 0 []=R):=hQ
  clear hR hQ
  have htn:=tab_new w
  have hbn:Below w.heap.size w (((w.alloc (.map #[] 0)).alloc (.map #[] 0)).alloc (.cells #[.map (some w.heap.size),.map (some (w.heap.size+1))] 114)):=(((Below.refl w.heap.size w).alloc (Nat.le_refl _) _).alloc (by simp) _).alloc (by simp;omega) _
  have hm1:=(hbn.cell (p:=⟨2,0,none⟩) hlt0).trans hm
  go_enter Tryz.func18,Tryz.ntmps18
  go_upto_region 4 with fail
  generalize ((w.alloc (.map #[] 0)).alloc (.map #[] 0)).alloc (.cells #[.map (some w.heap.size),.map (some (w.heap.size+1))] 114)=W at htn hbn hm1⊢
  have HBm:Hid (w.heap.size≤w.heap.size+1):=Nat.le_succ _
  generalize hml:w.heap.size+1=ml at htn HBm
  generalize hT:ml+1=T at htn
  try rw[hml]
  try rw[hT]
  clear hml hT
  go_wp2_with fail
  refine(hsp W hm1).mono ?_
  rintro _ w1 ⟨rfl,hst,hb1,hsz1⟩
  have ht1:=htn.below hb1
  have hbw1:Below w.heap.size w w1:=hbn.trans (hb1.mono hbn.size)
  have hlt1:W.heap.size<w1.heap.size:=by omega
  clear hsz1 hb1 htn hsp hbn hm1
  go_wp2_with fail
  go_loopw [19] (fun i wr=> ∃(k:Nat) (acc:List Ent) (val:List Int→Value),k≤C.length∧i=.int .i64 k∧TabAt wr T w.heap.size ml val acc∧acc.length≤4096∧Hid (ae9 (C.drop k) (k:Int) acc=R)∧Strs wr W.heap.size C∧Below w.heap.size w wr) (fun i _=>C.length-(intOf i).toNat)
  case atStart=>exact⟨0,[],_,by omega,rfl,ht1,by simp,HR,hst,hbw1⟩
  case round=>
   clear HR ht1 hst hbw1
   obtain⟨k,acc,val,hk,rfl,htk,hacc,HK,hstk,hbel⟩:=hrel
   by_cases hlt:k<C.length
   ·have hd:C.drop k=C[k]::C.drop (k+1):=List.drop_eq_getElem_cons hlt
    have hck:=hstk.cell hlt
    have hkl:=hcs C[k] (List.getElem_mem hlt)
    have hszk:(bsz C[k]).size≤65536:=by simp[ByteArray.size];omega
    have hdat:C[k]=(bsz C[k]).data.toList:=by simp
    generalize bsz C[k]=t at hck hszk hdat
    rw[hdat] at hd
    cases hsil:aaz t.data.toList with
    | true=>
     have HK2:Hid (ae9 (C.drop (k+1)) ((k:Int)+1) acc=R):=by show _=_;rw[←HK.out,hd,ae9,if_pos hsil]
     clear HK hd hdat
     by_cases hemp:t.data.toList=[]
     ·have hemp':t.toList.isEmpty=true:=by rw[ByteArray.toList_eq];simpa using hemp
      clear hsil hemp
      go_wp2_with fail
      go_roundw
      case rel=>exact⟨k+1,acc,val,by omega,by simp,htk,hacc,by simpa using HK2,hstk,hbel⟩
      case measure=>simp only[intOf];omega
     ·have hemp':t.toList.isEmpty=false:=by rw[ByteArray.toList_eq];simpa using hemp
      have hpos:0<t.size:=by rw[Lib.size_eq];exact List.length_pos_iff.2 hemp
      have he':(t[0].toNat:Int)=35:=by
       unfold aaz at hsil
       rw[aep t hpos] at hsil
       have hne:t.data.toList.isEmpty=false:=by simpa using hemp
       rw[hne] at hsil
       simp at hsil
       rw[hsil];rfl
      have he:((t[0].toNat:Int)==35)=true:=by simpa using he'
      clear hsil hemp
      go_wp2_with fail
      go_roundw
      case rel=>exact⟨k+1,acc,val,by omega,by simp,htk,hacc,by simpa using HK2,hstk,hbel⟩
      case measure=>simp only[intOf];omega
    | false=>
     have hemp:t.data.toList≠ []:=fun e=>by simp[aaz,e] at hsil
     have hemp':t.toList.isEmpty=false:=by rw[ByteArray.toList_eq];simpa using hemp
     have hpos:0<t.size:=by rw[Lib.size_eq];exact List.length_pos_iff.2 hemp
     have he': ¬(t[0].toNat:Int)=35:=by
      unfold aaz at hsil
      rw[aep t hpos] at hsil
      have hne:t.data.toList.isEmpty=false:=by simpa using hemp
      rw[hne] at hsil
      simp at hsil
      intro e
      exact hsil (UInt8.toNat_inj.1 (by
       have:t[0].toNat=35:=by omega
       simpa using this))
     have he:((t[0].toNat:Int)==35)=false:=by simpa using he'
     have HK1:Hid (R=if (takeR acc (ad9 t.data.toList)).1=0 then ae9 (C.drop (k+1)) ((k:Int)+1) (takeR acc (ad9 t.data.toList)).2 else .error ((takeR acc (ad9 t.data.toList)).1,(k:Int)+1)):=by show _=_;rw[←HK.out,hd,tabL_take _ _ _ _ hsil]
     have hmw:=(hbel.cell (p:=⟨2,0,none⟩) hlt0).trans hm
     have htk2:=take_any w.heap.size T w.heap.size ml val acc hacc t m wr hszk hmw (Nat.le_refl _) HBm.out htk
     have hac2:=takeR_len acc (ad9 t.data.toList) hacc
     generalize takeR acc (ad9 t.data.toList)=q at HK1 htk2 hac2
     obtain⟨q1,q2⟩:=q
     simp only at HK1 htk2 hac2
     clear HK hd hsil hemp hdat he' htk
     go_wp2_with fail
     refine htk2.mono ?_
     rintro _ w2 ⟨rfl,⟨val',ht2⟩,hb2,hk2⟩
     have hst2:Strs w2 W.heap.size C:=hk2 _ _ _ hstk
     have hbel2:=hbel.trans hb2
     by_cases h0:q1=0
     ·have HK2:Hid (ae9 (C.drop (k+1)) ((k:Int)+1) q2=R):=by show _=_;rw[HK1.out,if_pos h0]
      have b0:(q1 !=0)=false:=by rw[h0];rfl
      clear HK1 h0
      go_wp2_with fail
      go_roundw
      case rel=>exact⟨k+1,q2,val',by omega,by simp,ht2,hac2,by simpa using HK2,hst2,hbel2⟩
      case measure=>simp only[intOf];omega
     ·have hRe:R=.error (q1,(k:Int)+1):=by rw[HK1.out,if_neg h0]
      have b0:(q1 !=0)=true:=by rw[bne_iff_ne];exact h0
      clear HK1 h0
      go_wp2_with fail
      refine bodyPost_ret (agf rfl rfl rfl) rfl ?_
      exact⟨hbel2,by rw[hRe];rfl⟩
   ·have hRs:R=.ok acc:=by rw[←HK.out,List.drop_of_length_le (by omega)];rfl
    clear HK
    go_wp2_with fail
    refine bodyPost_ret (agf rfl rfl rfl) rfl ?_
    exact⟨hbel,by rw[hRs];exact⟨T,_,_,_,rfl,htk⟩⟩
theorem els_flat {n₀:Nat}{w:World}{b off n c:Nat}{l:List El}(h:Els n₀ w (.slice (some ⟨b,off,none⟩) n c) l)(j:Nat)(u:Value)(hu:(elsV l)[j]? =some u):w.cell? ⟨b,off+j,none⟩=some u:=by
 have hj:j<(elsV l).length:=(List.getElem?_eq_some_iff.1 hu).1
 rw[afz] at hj
 have hq:j/4<l.length:=by omega
 rcases h with ⟨a,cap,e,rfl⟩ | ⟨b',off',cap,e,hlt,hc⟩
 ·simp at hq
 ·cases e
  obtain⟨h0,h1,h2,h3⟩:=hc (j/4) hq
  obtain⟨g0,g1,g2,g3⟩:=elsV_at l (j/4) hq
  have hm:j % 4=0∨j % 4=1∨j % 4=2∨j % 4=3:=by omega
  rcases hm with hm | hm | hm | hm
  ·have e1:j=j/4*4:=by omega
   rw[e1] at hu
   rw[show off+j=off+j/4*4 by omega,h0,←hu,g0]
  ·have e1:j=j/4*4+1:=by omega
   rw[e1] at hu
   rw[show off+j=off+j/4*4+1 by omega,h1,←hu,g1]
  ·have e1:j=j/4*4+2:=by omega
   rw[e1] at hu
   rw[show off+j=off+j/4*4+2 by omega,h2,←hu,g2]
  ·have e1:j=j/4*4+3:=by omega
   rw[e1] at hu
   rw[show off+j=off+j/4*4+3 by omega,h3,←hu,g3]
theorem elsV_one (l:List El): ∀u∈elsV l,u.oneCell'=true:=by
 intro u hu
 unfold elsV at hu
 obtain⟨e,_,he⟩:=List.mem_flatMap.1 hu
 simp[elV] at he
 rcases he with rfl | rfl | rfl | rfl<;>rfl
set_option maxHeartbeats 2000000 in
set_option maxRecDepth 100000 in
theorem cloneE_any (n₀ b off c:Nat)(l:List El)(w:World)(hl:l.length≤1048576)(h:Els n₀ w (.slice (some ⟨b,off,none⟩) l.length c) l):
  Calls Tryz.prog 69 #[.slice (some ⟨b,off,none⟩) l.length c] w fun e w'=> ∃v',e=.returned v'∧EOwn w' w.heap.size v' l∧Below w.heap.size w w':=by
 obtain⟨i0,hi,hz0,hz1,hz2⟩:=info_parts info49
 have A:Aside (∀j u,(elsV l)[j]? =some u→w.cell? ⟨b,off+j,none⟩=some u):=els_flat h
 clear h
 have q35: ∀(w:World) (a:Option Addr) (n c n' c':Nat),(binOp .eql 75 (.slice a n c) (.slice none n' c')).run Tryz.prog w=.ok (.bool a.isNone) w:=fun w a n c n' c'=>Lib.run_eql_slice_nil w _ _ a n c n' c' Tryz.underlying75
 have u35: ∀w,Sem.run Tryz.prog (underlying 75) w=.ok (TypeDesc.slice 133) w:=run_underlying Tryz.underlying75
 go_enter Tryz.func69,Tryz.ntmps69
 go_wp2_with (at_builtin;refine wpList_append_own _ rfl _ _ 75 rfl w.heap.size 133 i0 _ 4 32 Tryz.underlying75 hi hz0 hz1 hz2 rfl (by decide) _ _ _ rfl (World.ownsRow_made w #[] 0 (Nat.le_refl _) (Nat.zero_le _) rfl) ⟨b,off,none⟩ l.length c (elsV l) rfl ?qc1 ?qc2 ?qc3 ?qc4 ?qc5 ?qc6 ?_)
 case qc1=>simp[afz]
 case qc2=>
  intro j u hj
  rw[Addr.add_lit]
  exact Lib.cell?_alloc_some _ (A.out j u hj)
 case qc3=>exact elsV_one l
 case qc4=>unfold maxLen;omega
 case qc5=>omega
 case qc6=>simp
 intro v' w1 hown hgrow hnil
 go_wp2
 go_ret
 refine⟨v',rfl,by simpa[EOwn] using hown,?_⟩
 exact((Below.refl _ w).alloc (Nat.le_refl _) _).grown hgrow (by simp) (by intro k hk;simp[Value.ownBlock] at hk;omega)
set_option maxHeartbeats 1000000 in
set_option maxRecDepth 100000 in
theorem cloneE_nil (w:World):Calls Tryz.prog 69 #[.slice none 0 0] w fun e w'=>e=.returned (.slice none 0 0)∧w'=w:=by
 have q35: ∀(w:World) (a:Option Addr) (n c n' c':Nat),(binOp .eql 75 (.slice a n c) (.slice none n' c')).run Tryz.prog w=.ok (.bool a.isNone) w:=fun w a n c n' c'=>Lib.run_eql_slice_nil w _ _ a n c n' c' Tryz.underlying75
 have u35: ∀w,Sem.run Tryz.prog (underlying 75) w=.ok (TypeDesc.slice 133) w:=run_underlying Tryz.underlying75
 go_enter Tryz.func69,Tryz.ntmps69
 go_wp2
 go_ret
 exact⟨rfl,rfl⟩
def FindPost (w:World)(r:Option (List El))(e:Ending)(w':World):Prop:=
 Below w.heap.size w w'∧match r with
  | none=>e=.returned (.tuple #[.slice none 0 0,.bool false])
  | some l=> ∃a n c,e=.returned (.tuple #[.slice a n c,.bool true])∧EOwn w' w.heap.size (.slice a n c) l
theorem findT_row {E:List Ent}(hok: ∀e∈E,EntOk e){p:List Int}(hp:aec p=false):acm E p=none:=by
 unfold acm
 rw[Option.map_eq_none_iff,List.find?_eq_none]
 intro e he h
 have:=(hok e he).row
 rw[beq_iff_eq.1 h,hp] at this
 cases this
theorem afd {E:List Ent}{p:List Int}{l:List El}(h:acm E p=some l):(p,l)∈E:=by
 unfold acm at h
 obtain⟨e,he,rfl⟩:=Option.map_eq_some_iff.1 h
 have h1:=List.mem_of_find?_eq_some he
 have h2:=List.find?_some he
 rw[beq_iff_eq] at h2
 obtain⟨a,b⟩:=e
 simp only at h2
 subst h2
 exact h1
set_option maxHeartbeats 2000000 in
set_option maxRecDepth 20000 in
theorem find_any (T me ml n₀:Nat)(val:List Int→Value)(E:List Ent)(v:Value)(zs:List Int)(w:World)(ht:TabAt w T me ml val E)(hn₀:n₀≤w.heap.size)(hin:Ints n₀ w v zs)(hll:zs.length≤4611686018427387904):
  Calls Tryz.prog 125 #[.pointer (some ⟨T,0,none⟩),v] w fun e w'=>FindPost w (acm E zs) e w':=by
 obtain⟨a,cap,hv⟩: ∃a cap,v=.slice a zs.length cap:=by
  rcases hin with ⟨a,cap,rfl,rfl⟩ | ⟨b,off,cap,rfl,_⟩
  ·exact⟨_,_,rfl⟩
  ·exact⟨_,_,rfl⟩
 subst hv
 have hro:=rowOf_any n₀ _ zs w hn₀ hin hll
 unfold gotR at hro
 cases hp:aec zs with
 | false=>
  rw[hp] at hro
  rw[findT_row ht.ok hp]
  simp only[Bool.false_eq_true,if_false] at hro
  rw[show rowA aha=.agg #[.int .i64 0,.int .i64 0,.int .i64 0,.int .i64 0,.int .i64 0,.int .i64 0,.int .i64 0,.int .i64 0] from rfl] at hro
  clear hin hp
  go_enter Tryz.func125,Tryz.ntmps125
  go_wp2_with fail
  refine hro.mono ?_
  rintro _ w1 ⟨rfl,hb1⟩
  have hb2:=hb1.alloc hb1.size (.cells #[.int .i64 0,.int .i64 0,.int .i64 0,.int .i64 0,.int .i64 0,.int .i64 0,.int .i64 0,.int .i64 0] 144)
  go_wp2
  go_ret2
  exact⟨hb2,rfl⟩
 | true=>
  rw[hp] at hro
  simp only[if_true] at hro
  obtain⟨a0,a1,a2,a3,a4,a5,a6,a7,hp8⟩:=eight (afr (ab2 hp).2)
  have hrow:rowA (ael zs)=.agg #[.int .i64 a0,.int .i64 a1,.int .i64 a2,.int .i64 a3,.int .i64 a4,.int .i64 a5,.int .i64 a6,.int .i64 a7]:=by rw[hp8];rfl
  rw[hrow] at hro
  have hfs: ∀l,acm E zs=some l→(zs,l)∈E:=fun l h=>afd h
  have hhf:=hasT_find E zs
  generalize acm E zs=R at hfs hhf⊢
  clear hin hp8
  go_enter Tryz.func125,Tryz.ntmps125
  go_wp2_with fail
  refine hro.mono ?_
  rintro _ w1 ⟨rfl,hb1⟩
  have hb2:=hb1.alloc hb1.size (.cells #[.int .i64 a0,.int .i64 a1,.int .i64 a2,.int .i64 a3,.int .i64 a4,.int .i64 a5,.int .i64 a6,.int .i64 a7] 144)
  have ht2:=ht.below hb2
  have hB2:=Blk.new w1 144 #[.int .i64 a0,.int .i64 a1,.int .i64 a2,.int .i64 a3,.int .i64 a4,.int .i64 a5,.int .i64 a6,.int .i64 a7]
  go_upto_region 6 with fail
  generalize (w1.alloc (.cells #[.int .i64 a0,.int .i64 a1,.int .i64 a2,.int .i64 a3,.int .i64 a4,.int .i64 a5,.int .i64 a6,.int .i64 a7] 144))=W at hb2 ht2 hB2⊢
  have hlk:=(show MapR W.drew me E.length (entF val E) from ht2.ents.block rfl).look_ok (zero35 _) (row_in hp)
  rw[hrow] at hlk
  have hef:entF val E (ael zs)=if hasT E zs then some (val (ael zs)) else none:=by unfold entF;rw[entF_find ht2.ok hp]
  rw[hef,hhf] at hlk
  have t0:W.cell? ⟨T,0,none⟩=some (.map (some me)):=ht2.blk.cell 0
  obtain⟨c0,c1,c2,c3,c4,c5,c6,c7,_⟩:=hB2.c8
  clear hef hhf hrow hro
  cases R with
  | none=>
   simp only[Option.isSome,Bool.false_eq_true,if_false,Option.getD] at hlk
   go_region
   go_wp2_with fail
   refine(cloneE_nil _).mono ?_
   rintro _ w3 ⟨rfl,rfl⟩
   go_wp2
   go_ret2
   exact⟨hb2.drew,rfl⟩
  | some l=>
   simp only[Option.isSome,if_true,Option.getD] at hlk
   have hmem:=hfs l rfl
   have hel:=ht2.els (zs,l) hmem
   have hok:=ht2.ok (zs,l) hmem
   simp only at hel
   have hl0:1≤l.length:=hok.n0
   have hl1:l.length≤16:=hok.n1
   generalize val (ael zs)=vv at hlk hel
   obtain⟨b,off,cv,rfl⟩: ∃b off cv,vv=.slice (some ⟨b,off,none⟩) l.length cv:=by
    rcases hel with ⟨_,_,_,rfl⟩ | ⟨b,off,cv,rfl,_⟩
    ·simp at hl0
    ·exact⟨b,off,cv,rfl⟩
   have hcl:=cloneE_any W.heap.size b off cv l W.drew (by omega) hel
   have hlw:w.heap.size≤W.heap.size:=hb2.size
   clear hfs hmem hel hok ht2 hB2
   go_region
   go_wp2_with fail
   refine hcl.mono ?_
   rintro _ w3 ⟨v',rfl,hown,hb3⟩
   obtain⟨av,cv',rfl⟩:=aba hown
   have hbz:Below w.heap.size w w3:=hb2.trans ((show Below W.heap.size W w3 from((Below.refl _ W).drew).trans hb3).mono hlw)
   go_wp2
   go_ret2
   exact⟨hbz,_,_,_,rfl,aae hown hlw⟩
set_option maxHeartbeats 1000000 in
theorem longest_any (T me ml:Nat)(val:List Int→Value)(E:List Ent)(x:Int)(hx:InI x)(w:World)(ht:TabAt w T me ml val E):
  Calls Tryz.prog 239 #[.pointer (some ⟨T,0,none⟩),.int .i64 x] w fun e w'=>e=.returned (.int .i64 (abw E x:Int))∧w=w':=by
 have t1:w.cell? ⟨T,1,none⟩=some (.map (some ml)):=ht.blk.cell 1
 have hl:=ht.longs.look Tryz.underlying112 (zero57 w) hx
 rw[longF_get] at hl
 generalize abw E x=L at hl⊢
 go_enter Tryz.func239,Tryz.ntmps239
 go_wp2
 go_ret
 exact⟨rfl,rfl⟩
def aaw (E:List Ent)(q:List Int):Bool:=(acm E q).isSome
theorem find_b (T me ml n₀:Nat)(val:List Int→Value)(E:List Ent)(v:Value)(zs:List Int)(w:World)(ht:TabAt w T me ml val E)(hn₀:n₀≤w.heap.size)(hin:Ints n₀ w v zs)(hll:zs.length≤4611686018427387904):
  Calls Tryz.prog 125 #[.pointer (some ⟨T,0,none⟩),v] w fun e w'=> ∃u,e=.returned (.tuple #[u,.bool (aaw E zs)])∧Below w.heap.size w w':=by
 refine(find_any T me ml n₀ val E v zs w ht hn₀ hin hll).mono ?_
 rintro e w' ⟨hb,hm⟩
 unfold aaw
 cases hf:acm E zs with
 | none=>rw[hf] at hm;exact⟨_,hm,hb⟩
 | some l=>rw[hf] at hm;obtain⟨a,n,c,rfl,_⟩:=hm;exact⟨_,rfl,hb⟩
set_option maxHeartbeats 4000000 in
set_option maxRecDepth 20000 in
theorem beginning_any {w₁:World}{bd T B g off cap me ml:Nat}{val:List Int→Value}{E:List Ent}{x:Int}{t:List Int}{ps:List (List Int)}{W:World}(hk:MWk w₁ bd T B g off cap ((x::t)::ps) W)(ht:TabAt w₁ T me ml val E)(hx:InI x)
  (hl:((x::t)::ps).length≤4611686018427387904) (hpl: ∀p∈(x::t)::ps,p.length≤4611686018427387904) (hm8:abw E x≤8):
  Calls Tryz.prog 205 #[.pointer (some ⟨B,0,none⟩)] W fun e W'=> ∃n b gr k c,e=.returned (.tuple #[.slice (some ⟨gr,0,none⟩) k c,.bool b])∧n=abe (aaw E) ((x::t)::ps).flatten (min (max 1 (abw E x)) ((x::t)::ps).flatten.length)∧b=decide (n≠0)∧IOwn W' W.heap.size (.slice (some ⟨gr,0,none⟩) k c) (((x::t)::ps).flatten.take (if n=0 then 1 else n))∧Below W.heap.size W W':=by
 obtain⟨c0,c1,c2⟩:=hk.cells
 obtain⟨pb,po,c,d0,d1,d2⟩:=hk.piece (j:=0) (by simp)
 simp only[List.getElem_cons_zero,Nat.add_zero] at d0 d1 d2
 have d3:=d2.2 0 (by simp)
 simp only[List.getElem?_cons_zero,Option.getD_some,Nat.add_zero] at d3
 have htw: ∀W',Below W.heap.size W W'→TabAt W' T me ml val E:=fun W' h=>ht.below (hk.below.trans (h.mono hk.below.size))
 obtain⟨M,hM⟩: ∃M,M=max 1 (abw E x):=⟨_,rfl⟩
 have hMi:max (1:Int) ((abw E x:Nat):Int)=(M:Int):=by omega
 have hM8:1≤M∧M≤8:=by omega
 have HL:Hid (∀W',Below W.heap.size W W'→Calls Tryz.prog 239 #[.pointer (some ⟨T,0,none⟩),.int .i64 x] W' fun e w'=>e=.returned (.int .i64 (abw E x:Int))∧W'=w'):=fun W' h=>longest_any T me ml val E x hx W' (htw W' h)
 have HF:Hid (∀W',Below W.heap.size W W'→Calls Tryz.prog 238 #[.pointer (some ⟨B,0,none⟩),.int .i64 M] W' fun e W2=> ∃gr k c,e=.returned (.slice (some ⟨gr,0,none⟩) k c)∧IOwn W2 W.heap.size (.slice (some ⟨gr,0,none⟩) k c) (((x::t)::ps).flatten.take M)∧Below W.heap.size W W2):=fun W' h=>(front_any (hk.go h) hl hpl M hM8.2).mono (by
  rintro e W2 ⟨gr,k,c,e1,e2,e3⟩
  exact⟨gr,k,c,e1,e2.mono h.size,h.trans (e3.mono h.size)⟩)
 rw[←hM]
 clear hM
 generalize abw E x=LL at*
 have hbz:Below W.heap.size W W.drew:=(Below.refl _ W).drew
 have HTW:Hid _:=htw
 clear htw
 have hlpos:1≤((x::t)::ps).flatten.length:=by simp
 generalize ((x::t)::ps).flatten=l at HF hlpos⊢
 go_enter Tryz.func205,Tryz.ntmps205
 go_upto_region 1 with fail
 go_cut [4] from 8 to 23 (fun v wx=> ∃gr kr cr,v=.slice (some ⟨gr,0,none⟩) kr cr∧Aside (IOwn wx W.heap.size (.slice (some ⟨gr,0,none⟩) kr cr) (l.take M))∧Below W.heap.size W wx)
 case first=>
  go_region_with (first | (go_at_call 239;with_reducible refine(HL.out _ (by assumption)).mono ?_;rintro e w2 ⟨rfl,rfl⟩) | (go_at_call 238;with_reducible refine(HF.out _ (by assumption)).mono ?_;rintro e w3 ⟨gr,kr,cr,rfl,hown3,hb3⟩))
  all_goals
   go_wp2_with fail
   go_meet
   exact⟨gr,kr,cr,rfl,hown3,hb3⟩
 case rest=>
  obtain⟨gr,kr,cr,rfl,HOWN,hb3⟩:=hcut
  have hkr:=HOWN.out.form1
  rw[List.length_take] at hkr
  have HKR:Hid (kr=min M l.length):=hkr
  have hkr1:1≤kr∧kr≤8:=by omega
  clear hkr HL HF
  go_wp2_with fail
  go_loopw [5] (fun nv wr=> ∃k:Nat,k≤kr∧nv=.int .i64 k∧Hid (abe (aaw E) l k=abe (aaw E) l kr)∧Aside (IOwn wr W.heap.size (.slice (some ⟨gr,0,none⟩) kr cr) (l.take M))∧Below W.heap.size W wr) (fun nv _=>(intOf nv).toNat)
  case atStart=>exact⟨kr,Nat.le_refl _,rfl,rfl,HOWN,hb3⟩
  case round=>
   clear HOWN hb3
   obtain⟨k,hk1,rfl,HF,HOWN,hbr⟩:=hrel
   have htr:=HTW.out _ hbr
   have r1:wr.cell? ⟨B,1,none⟩=some (.pointer (some ⟨T,0,none⟩)):=(hbr.cell (p:=⟨B,1,none⟩) hk.blk.lt).trans c1
   cases k with
   | zero=>
    have h0:abe (aaw E) l kr=0:=HF.out.symm
    have hfin:IOwn wr W.heap.size (.slice (some ⟨gr,0,none⟩) 1 cr) (l.take 1):=by
     have:=HOWN.out.take (m:=1) (by rw[List.length_take];omega)
     rwa [List.take_take,Nat.min_eq_left hM8.1] at this
    obtain⟨hcap1,hcap2⟩:1≤kr∧kr≤cr:=⟨hkr1.1,by
     rcases HOWN.out.form with ⟨e,_⟩ | ⟨g',cp,e,_,_,hle,_⟩
     ·cases e
     ·cases e;rw[List.length_take,←HKR.out] at hle;exact hle⟩
    go_wp2_with fail
    go_ret2
    exact⟨0,false,gr,1,cr,rfl,by rw[←HKR.out];exact h0.symm,by simp,hfin,hbr⟩
   | succ k=>
    have hown:=HOWN.out.take (m:=k+1) (by rw[List.length_take,←HKR.out];exact hk1)
    rw[List.take_take,Nat.min_eq_left (show k+1≤M by have:=HKR.out;omega)] at hown
    have hcap2:kr≤cr:=by
     rcases HOWN.out.form with ⟨e,_⟩ | ⟨g',cp,e,_,_,hle,_⟩
     ·cases e
     ·cases e;rw[List.length_take,←HKR.out] at hle;exact hle
    have hlen:(l.take (k+1)).length=k+1:=by rw[List.length_take];have:=HKR.out;omega
    have HFD:Hid (∀n,Calls Tryz.prog 125 #[.pointer (some ⟨T,0,none⟩),.slice (some ⟨gr,0,none⟩) (k+1) cr] (wr.drewN n) fun e w'=> ∃u,e=.returned (.tuple #[u,.bool (aaw E (l.take (k+1)))])∧Below (wr.drewN n).heap.size (wr.drewN n) w'):=fun n=>find_b T me ml _ val E _ (l.take (k+1)) (wr.drewN n) (htr.below (abv _ _)) (Nat.le_refl _) (IOwn.ints (aac hown (abv _ _))) (by omega)
    have hfd1:=HFD.out 1
    generalize hfb:aaw E (l.take (k+1))=fb at HFD hfd1
    have HFB:Hid (aaw E (l.take (k+1))=fb):=hfb
    clear hfb
    have h1:wr.drewN 1=wr.drew:=rfl
    rw[h1] at hfd1
    go_upto_region 5 with fail
    go_cut [6,7] from 26 to 44 (fun _ v wx=>v=.bool fb∧Aside (Below wr.heap.size wr wx))
    case first=>
     go_region_with (first | (go_at_call 125;with_reducible refine hfd1.mono ?_;rintro e w2 ⟨u,rfl,hb2⟩))
     all_goals
      go_wp2_with fail
      go_meet
      exact⟨rfl,(Below.refl _ wr).drew.trans hb2⟩
    case rest=>
     obtain⟨rfl,HB⟩:=hcut
     have hbc:Below W.heap.size W wc:=hbr.trans (HB.out.mono hbr.size)
     have HOW2:Aside (IOwn wc W.heap.size (.slice (some ⟨gr,0,none⟩) kr cr) (l.take M)):=aac HOWN.out HB.out
     have HOW3:Aside (IOwn wc W.heap.size (.slice (some ⟨gr,0,none⟩) (k+1) cr) (l.take (k+1))):=aac hown HB.out
     clear HFD hfd1 HOWN hown HB
     cases fb with
     | true=>
      have hfn:abe (aaw E) l kr=k+1:=by rw[←HF.out,abe,HFB.out];rfl
      go_wp2_with fail
      go_ret2
      exact⟨k+1,true,gr,k+1,cr,rfl,by rw[←HKR.out];exact hfn.symm,by simp,by simpa using HOW3.out,hbc⟩
     | false=>
      have HF2:Hid (abe (aaw E) l k=abe (aaw E) l kr):=by
       show _=_
       rw[←HF.out,abe,HFB.out]
       rfl
      go_wp2_with fail
      go_roundw
      case rel=>exact⟨k,by omega,by simp,HF2,HOW2,hbc⟩
      case measure=>simp only[intOf];omega
structure Kg (n₁ g:Nat)(W W':World):Prop where
 size:W.heap.size≤W'.heap.size
 block: ∀k,k<n₁→k≠g→W'.heap[k]? =W.heap[k]?
theorem Kg.trans {n₁ g:Nat}{a b c:World}(h:Kg n₁ g a b)(k:Kg n₁ g b c):Kg n₁ g a c:=⟨Nat.le_trans h.size k.size,fun i hi h1=>(k.block i hi h1).trans (h.block i hi h1)⟩
theorem Kg.below {n₁ g:Nat}{W W':World}(h:Below n₁ W W'):Kg n₁ g W W':=⟨h.size,fun k hk _=>h.block k hk⟩
section
variable {w₁ W W':World}{bd T B g off cap n₁:Nat}{ps pre rest:List (List Int)}{p q:List Int}
theorem MWk.goN (h:MWk w₁ bd T B g off cap ps W)(hb:Below n₁ W W')(hB:B<n₁)(hg:g<n₁)(hw:w₁.heap.size≤n₁):MWk w₁ bd T B g off cap ps W':=by
 obtain⟨cs,hc⟩:=h.row
 exact⟨h.below.trans (hb.mono hw),h.blk.below hb hB,h.cap,h.lowB,h.lowg,⟨cs,hc.below hb hg⟩,h.pcs.same (hb.block g hg) (fun k hk=>hb.block k (Nat.lt_of_lt_of_le hk hw))⟩
theorem MWk.pieceA (h:MWk w₁ bd T B g off cap (pre++p::rest) W): ∃b o c,W.cell? ⟨g,off+pre.length,none⟩=some (.slice (some ⟨b,o,none⟩) p.length c)∧p.length≤c∧Pc w₁.heap.size W b o p:=by
 have:=h.piece (j:=pre.length) (by simp)
 simpa using this
theorem MWk.setA (h:MWk w₁ bd T B g off cap (pre++p::rest) W){b o c:Nat}(hq:Pc w₁.heap.size W b o q)(hqc:q.length≤c):MWk w₁ bd T B g off cap (pre++q::rest) (W.setCell ⟨g,off+pre.length,none⟩ (.slice (some ⟨b,o,none⟩) q.length c))∧Kg n₁ g W (W.setCell ⟨g,off+pre.length,none⟩ (.slice (some ⟨b,o,none⟩) q.length c)):=by
 have:=(h.set (i:=pre.length) (by simp) hq hqc).1
 rw[List.set_append_right _ _ (Nat.le_refl _),Nat.sub_self,List.set_cons_zero] at this
 exact⟨this,by simp[World.setCell],fun k _ h1=>Below.heap_setCell W _ _ k h1⟩
end
section
variable {cls:Int→Int}{fnd:List Int→Bool}{m:Nat}
theorem joinPs_nil (row:List Int)(rest:List (List Int)):aa1 cls fnd m row ([]::rest)=((aa1 cls fnd m row rest).1,[]::(aa1 cls fnd m row rest).2):=by simp[aa1,aa6]
theorem joinPs_stop {row:List Int}{y:Int}(ys:List Int)(rest:List (List Int))(h:row.length=m∨cls y=0):aa1 cls fnd m row ((y::ys)::rest)=(row,(y::ys)::rest):=by
 have:aa6 cls fnd m row (y::ys)=(row,y::ys,true):=by unfold aa6;rw[if_pos h]
 simp[aa1,this]
theorem joinPs_no {row:List Int}{y:Int}(ys:List Int)(rest:List (List Int))(h: ¬(row.length=m∨cls y=0))(hf:fnd (row++[y])=false):aa1 cls fnd m row ((y::ys)::rest)=((aa1 cls fnd m row rest).1,(y::ys)::(aa1 cls fnd m row rest).2):=by
 have:aa6 cls fnd m row (y::ys)=(row,y::ys,false):=by unfold aa6;rw[if_neg h,hf];rfl
 simp[aa1,this]
theorem joinPs_yes {row:List Int}{y:Int}(ys:List Int)(rest:List (List Int))(h: ¬(row.length=m∨cls y=0))(hf:fnd (row++[y])=true):aa1 cls fnd m row ((y::ys)::rest)=aa1 cls fnd m (row++[y]) (ys::rest):=by
 have:aa6 cls fnd m row (y::ys)=aa6 cls fnd m (row++[y]) ys:=by conv=>lhs;unfold aa6;rw[if_neg h,if_pos hf]
 simp only[aa1,this]
end
set_option maxHeartbeats 8000000 in
set_option maxRecDepth 20000 in
theorem mjoin_any {w₁:World}{bd T B g off cap me ml n₁:Nat}{val:List Int→Value}{L:List Mk}{F:Int→List Int}{E:List Ent}{x:Int}{r:List Int}{ps:List (List Int)}{W:World}{gr kr cr:Nat}
  (hk:MWk w₁ bd T B g off cap ps W) (hd:DataAt w₁ bd L F) (ht:TabAt w₁ T me ml val E) (hx:InI x) (hps: ∀p∈ps,∀q∈p,InI q)
  (hl:ps.length≤4611686018427387904) (hpl: ∀p∈ps,p.length≤4611686018427387904) (hm8:abw E x≤8) (hr8:(x::r).length≤abw E x) (hn₁:B<n₁∧g<n₁∧n₁≤W.heap.size∧w₁.heap.size≤n₁) (hown:IOwn W n₁ (.slice (some ⟨gr,0,none⟩) kr cr) (x::r)):
  Calls Tryz.prog 207 #[.pointer (some ⟨B,0,none⟩),.slice (some ⟨gr,0,none⟩) kr cr] W fun e W'=> ∃g2 k2 c2,e=.returned (.slice (some ⟨g2,0,none⟩) k2 c2)∧IOwn W' n₁ (.slice (some ⟨g2,0,none⟩) k2 c2) (aa1 (aaa L) (aaw E) (abw E x) (x::r) ps).1∧MWk w₁ bd T B g off cap (aa1 (aaa L) (aaw E) (abw E x) (x::r) ps).2 W'∧Kg n₁ g W W':=by
 obtain⟨c0,c1,c2⟩:=hk.cells
 obtain⟨hBn,hgn,hnW,hwn⟩:=hn₁
 have HLo:Hid (∀n,Calls Tryz.prog 239 #[.pointer (some ⟨T,0,none⟩),.int .i64 x] (W.drewN n) fun e w'=>e=.returned (.int .i64 (abw E x:Int))∧W.drewN n=w'):=fun n=>longest_any T me ml val E x hx _ (ht.below (hk.below.trans ((abv W n).mono hk.below.size)))
 have hlo1:=HLo.out 1
 rw[show W.drewN 1=W.drew from rfl] at hlo1
 have hr0:W.cell? ⟨gr,0,none⟩=some (.int .i64 x):=by
  rcases hown.form with ⟨e,_⟩ | ⟨g',cp,e,_,_,_,hc,_⟩
  ·cases e
  ·cases e;simpa using hc 0 (by simp)
 have hkr:=hown.form1
 simp only[List.length_cons] at hkr
 generalize hJ:aa1 (aaa L) (aaw E) (abw E x) (x::r) ps=J
 have HJ:Hid (((aa1 (aaa L) (aaw E) (abw E x) (x::r) ps).1,[]++(aa1 (aaa L) (aaw E) (abw E x) (x::r) ps).2)=J):=by show _=_;rw[hJ];rfl
 generalize hmm:abw E x=m at*
 have HOWN:Aside _:=hown
 have hkr1:1≤kr:=by omega
 have HKR:Hid (kr=r.length+1):=hkr
 clear hJ hown hkr HLo hmm
 go_enter Tryz.func207,Tryz.ntmps207
 go_wp2
 go_step3
 go_upto_region 1 with fail
 go_cut [5] from 13 to 20 (fun v wx=>v=.int .i64 m∧wx=W.drew)
 case first=>
  go_region_with (first | (go_at_call 239;with_reducible refine hlo1.mono ?_;rintro e w2 ⟨rfl,rfl⟩))
  all_goals
   go_wp2_with fail
   go_meet
   exact⟨rfl,rfl⟩
 case rest=>
  obtain⟨rfl,rfl⟩:=hcut
  have hbd:Below W.heap.size W W.drew:=(Below.refl _ W).drew
  have hk1:=hk.go hbd
  have HOWN1:Aside (IOwn W.drew n₁ (.slice (some ⟨gr,0,none⟩) kr cr) (x::r)):=aac HOWN.out hbd
  have hkg1:Kg n₁ g W W.drew:=Kg.below (hbd.mono hnW)
  have hnW1:n₁≤W.drew.heap.size:=hnW
  generalize W.drew=W1 at hk1 HOWN1 hkg1 hnW1⊢
  clear hlo1 hr0 c0 c1 c2 hbd HOWN hk
  obtain⟨c0,c1,c2⟩:=hk1.cells
  go_wp2_with fail
  go_step3
  go_wp2_with fail
  go_loopw [1,26] (fun v iv wr=> ∃(pre suf:List (List Int)) (row:List Int) (g2 k2 c2:Nat),iv=.int .i64 pre.length∧v=.slice (some ⟨g2,0,none⟩) k2 c2∧Hid (pre.length+suf.length=ps.length)∧Aside (IOwn wr n₁ (.slice (some ⟨g2,0,none⟩) k2 c2) (x::row))∧Hid (((aa1 (aaa L) (aaw E) m (x::row) suf).1,pre++(aa1 (aaa L) (aaw E) m (x::row) suf).2)=J)∧row.length+1≤m∧Hid (∀p∈suf,(∀q∈p,InI q)∧p.length≤4611686018427387904)∧MWk w₁ bd T B g off cap (pre++suf) wr∧Kg n₁ g W wr∧n₁≤wr.heap.size) (fun _ iv _=>ps.length-(intOf iv).toNat)
  case atStart=>exact⟨[],ps,r,gr,kr,cr,rfl,rfl,by show _=_;simp,HOWN1,HJ,hr8,fun p hp=>⟨hps p hp,hpl p hp⟩,hk1,hkg1,hnW1⟩
  case round=>
   clear HOWN1 hk1 hkg1 hnW1 HJ c0 c1 c2 hkr1 HKR
   obtain⟨pre,suf,row,g2,k2,cc2,rfl,rfl,HLN,HOWN,HJ,hrow,HP,hk,hkg,hnr⟩:=hrel
   cases suf with
   | nil=>
    have hln:pre.length=ps.length:=by have:=HLN.out;simpa using this
    have hfin:IOwn wr n₁ (.slice (some ⟨g2,0,none⟩) k2 cc2) J.1∧MWk w₁ bd T B g off cap J.2 wr:=by
     rw[←HJ.out]
     exact⟨HOWN.out,by simpa[aa1] using hk⟩
    have hlt: ¬((pre.length:Int)<(ps.length:Int)):=by omega
    clear HJ hln
    go_wp2_with fail
    try rw[Exit.noGoto_ret]
    go_ret
    exact⟨_,_,_,rfl,hfin.1,hfin.2,hkg⟩
   | cons p rest=>
    have hln:pre.length<ps.length:=by have:=HLN.out;simp at this;omega
    have hlt:(pre.length:Int)<(ps.length:Int):=by omega
    obtain⟨c0,c1,c2⟩:=hk.cells
    obtain⟨pb,po,pc,d0,d1,d2⟩:=hk.pieceA
    have hpp:=HP.out p (by simp)
    have hpI:=hpp.1
    have hpL:=hpp.2
    have HP2:Hid (∀p∈rest,(∀q∈p,InI q)∧p.length≤4611686018427387904):=fun q hq=>HP.out q (by simp[hq])
    have HD2:Aside (∀W',Below w₁.heap.size w₁ W'→Pc w₁.heap.size W' pb po p):=fun W' h=>d2.same (fun k hk'=>(h.block k hk').trans (hk.below.block k hk').symm)
    have HL2:Hid (pre.length+1+rest.length=ps.length):=by have:=HLN.out;simp at this;show _=_;omega
    have hps1:ps.length≤4611686018427387904:=hl
    have hps2:(pre++p::rest).length=ps.length:=by have:=HL2.out;simp;omega
    rw[hps2] at c2
    clear HP HLN hpp hps2
    go_wp2_with fail
    go_loopw [1,33] (fun v jv wr=> ∃(j:Nat) (row:List Int) (g2 k2 c2:Nat),j≤p.length∧jv=.int .i64 j∧v=.slice (some ⟨g2,0,none⟩) k2 c2∧Aside (IOwn wr n₁ (.slice (some ⟨g2,0,none⟩) k2 c2) (x::row))∧Hid (((aa1 (aaa L) (aaw E) m (x::row) (p.drop j::rest)).1,pre++(aa1 (aaa L) (aaw E) m (x::row) (p.drop j::rest)).2)=J)∧row.length+1≤m∧MWk w₁ bd T B g off cap (pre++p.drop j::rest) wr∧Kg n₁ g W wr∧n₁≤wr.heap.size) (fun _ jv _=>p.length-(intOf jv).toNat)
    case atStart=>exact⟨0,row,g2,k2,cc2,by omega,rfl,rfl,HOWN,HJ,hrow,hk,hkg,hnr⟩
    case round=>
     clear HOWN HJ hrow hk hkg hnr c0 c1 c2 d0 d2
     obtain⟨j,row,g2,k2,cc2,hj,rfl,rfl,HOWN,HJ,hrow,hk,hkg,hnr⟩:=hrel
     by_cases hjl:j<p.length
     ·have hdr:p.drop j=p[j]::p.drop (j+1):=List.drop_eq_getElem_cons hjl
      have hcj:=(HD2.out wr hk.below).2 j hjl
      rw[show p[j]?.getD 0=p[j] by simp[List.getElem?_eq_getElem hjl]] at hcj
      have hyI:=hpI _ (List.getElem_mem hjl)
      have HPJ:Hid (p.drop j=p[j]::p.drop (j+1)):=hdr
      generalize p[j]=y at hcj hyI HPJ
      have hk2:=HOWN.out.form1
      simp only[List.length_cons] at hk2
      subst hk2
      obtain⟨c0,c1,c2⟩:=hk.cells
      obtain⟨pb2,po2,pc2,d0,d1',d2⟩:=hk.pieceA
      have hcls:=class_any bd L F y wr hyI (hd.below hk.below)
      by_cases hfull:row.length+1=m
      ·have hf2:(((row.length:Int)+1)==(m:Int))=true:=by simp;omega
       have hfin:IOwn wr n₁ (.slice (some ⟨g2,0,none⟩) (row.length+1) cc2) J.1∧MWk w₁ bd T B g off cap J.2 wr:=by
        rw[←HJ.out,HPJ.out,joinPs_stop _ _ (.inl (by simpa using hfull)),←HPJ.out]
        exact⟨HOWN.out,hk⟩
       clear HJ HPJ hfull
       go_wp2_with fail
       try rw[Exit.noGoto_ret]
       go_ret
       exact⟨_,_,_,rfl,hfin.1,hfin.2,hkg⟩
      ·have hf2:(((row.length:Int)+1)==(m:Int))=false:=by simp;omega
       by_cases hc0:aaa L y=0
       ·have hfin:IOwn wr n₁ (.slice (some ⟨g2,0,none⟩) (row.length+1) cc2) J.1∧MWk w₁ bd T B g off cap J.2 wr:=by
         rw[←HJ.out,HPJ.out,joinPs_stop _ _ (.inr hc0),←HPJ.out]
         exact⟨HOWN.out,hk⟩
        rw[hc0] at hcls
        clear HJ HPJ hfull hc0
        go_wp2_with fail
        refine hcls.mono ?_
        rintro e w3 ⟨rfl,rfl⟩
        go_wp2_with fail
        try rw[Exit.noGoto_ret]
        go_ret
        exact⟨_,_,_,rfl,hfin.1,hfin.2,hkg⟩
       ·have hnot: ¬((x::row).length=m∨aaa L y=0):=by simp;exact⟨hfull,hc0⟩
        have HNOT:Hid _:=hnot
        have hc1:(aaa L y==0)=false:=by simpa using hc0
        generalize aaa L y=cy at hcls hc1
        clear hnot hfull hc0
        go_wp2_with fail
        refine hcls.mono ?_
        rintro e w3 ⟨rfl,rfl⟩
        have hbA:=(Below.refl wr.heap.size wr).alloc (Nat.le_refl _) (.cells #[.int .i64 y] 3)
        have hnb:=Blk.new wr 3 #[.int .i64 y]
        have HOWN2:Aside (IOwn (wr.alloc (.cells #[.int .i64 y] 3)) n₁ (.slice (some ⟨g2,0,none⟩) (row.length+1) cc2) (x::row)):=aac HOWN.out hbA
        have hszA:n₁≤(wr.alloc (.cells #[.int .i64 y] 3)).heap.size:=Nat.le_trans hnr hbA.size
        have hlx:(x::row).length≤1099511627776:=by simp;omega
        go_upto_region 10 with (first | (at_builtin;refine aeu rfl _ _ rfl n₁ _ (x::row) rfl HOWN2.out y ⟨wr.heap.size,0,none⟩ _ rfl (hnb.cell 0) hlx hszA ?_;intro v4 w4 hown4 hold4 hgr4;obtain⟨a4,c4,rfl⟩:=hown4.val;obtain⟨g4,rfl,hg4,hcap4⟩:=hown4.some_of (by simp)))
        have hb4:Below n₁ wr w4:=((Below.refl n₁ wr).alloc hnr _).grown hgr4 hszA (fun j hj=>(aah HOWN2.out hj).1)
        have hk4:=hk.goN hb4 hBn hgn hwn
        have hkg4:Kg n₁ g W w4:=hkg.trans (Kg.below hb4)
        have hn4:n₁≤w4.heap.size:=Nat.le_trans hnr hb4.size
        have HO4:Aside (IOwn w4 n₁ (.slice (some ⟨g4,0,none⟩) (x::row++[y]).length c4) (x::row++[y])):=hown4
        have HOL:Aside (IOwn w4 n₁ (.slice (some ⟨g2,0,none⟩) (row.length+1) cc2) (x::row)):=hold4
        clear hown4 hold4 hgr4 hcap4 hbA hnb HOWN2 hszA hlx HOWN hcls hc1 c0 c1 c2 d0 d1' d2
        obtain⟨c0,c1,c2⟩:=hk4.cells
        have hfd:=find_b T me ml _ val E _ (x::row++[y]) w4 (ht.below hk4.below) (Nat.le_refl _) (IOwn.ints HO4.out) (by simp;omega)
        generalize hfb:aaw E (x::row++[y])=fb at hfd
        have HFB:Hid (aaw E ((x::row)++[y])=fb):=hfb
        have hl4:(x::row++[y]).length=row.length+1+1:=by simp
        rw[hl4] at hfd HO4
        clear hfb hl4
        go_wp2_with fail
        refine hfd.mono ?_
        rintro e w5 ⟨u5,rfl,hb5⟩
        have hb5':Below n₁ w4 w5:=hb5.mono hn4
        have hk5:=hk4.goN hb5' hBn hgn hwn
        have hkg5:Kg n₁ g W w5:=hkg4.trans (Kg.below hb5')
        have hn5:n₁≤w5.heap.size:=Nat.le_trans hn4 hb5.size
        have HO5:Aside (IOwn w5 n₁ (.slice (some ⟨g4,0,none⟩) (row.length+1+1) c4) (x::row++[y])):=aac HO4.out hb5
        have HOL5:Aside (IOwn w5 n₁ (.slice (some ⟨g2,0,none⟩) (row.length+1) cc2) (x::row)):=aac HOL.out hb5
        clear hfd HO4 HOL hk4 hkg4 hn4 hb4 hb5 hb5' hk hkg hnr c0 c1 c2
        cases fb with
        | false=>
         have HJ2:Hid (((aa1 (aaa L) (aaw E) m (x::row) rest).1,(pre++[p.drop j])++(aa1 (aaa L) (aaw E) m (x::row) rest).2)=J):=by
          show _=_
          rw[←HJ.out,HPJ.out,joinPs_no _ _ HNOT.out HFB.out]
          simp
         have hk':MWk w₁ bd T B g off cap ((pre++[p.drop j])++rest) w5:=by simpa using hk5
         clear HJ hk5 HPJ HNOT HFB
         go_wp2_with fail
         go_roundw
         case rel=>exact⟨pre++[p.drop j],rest,row,g2,row.length+1,cc2,by simp,by simp,by have:=HL2.out;show _=_;simp;omega,HOL5,HJ2,hrow,HP2,hk',hkg5,hn5⟩
         case measure=>simp only[intOf];omega
        | true=>
         have HJ2:Hid (((aa1 (aaa L) (aaw E) m (x::(row++[y])) (p.drop (j+1)::rest)).1,pre++(aa1 (aaa L) (aaw E) m (x::(row++[y])) (p.drop (j+1)::rest)).2)=J):=by
          show _=_
          rw[←HJ.out,HPJ.out,joinPs_yes _ _ HNOT.out HFB.out]
          rfl
         have hrow2:(row++[y]).length+1≤m:=by
          have:=HNOT.out
          simp at this⊢
          omega
         obtain⟨o2,hif,ho2⟩: ∃o2,(if pc=j+1 then some (⟨pb,po,none⟩:Addr) else some ⟨pb,po+(j+1),none⟩)=some ⟨pb,o2,none⟩∧(j+1<p.length→o2=po+(j+1)):=by
          by_cases h:pc=j+1
          ·exact⟨po,by rw[if_pos h],fun h2=>by omega⟩
          ·exact⟨po+(j+1),by rw[if_neg h],fun _=>rfl⟩
         obtain⟨y1,y2⟩:=hk5.setA (n₁:=n₁) (q:=p.drop (j+1)) (b:=pb) (o:=o2) (c:=pc-(j+1)) ((HD2.out w5 hk5.below).drop ho2) (by rw[List.length_drop];omega)
         rw[List.length_drop] at y1 y2
         have y1':=y1.go (Below.refl _ _).drew
         have y2':=(hkg5.trans y2).trans (Kg.below ((Below.refl n₁ _).drew))
         have hn6:n₁≤((w5.setCell ⟨g,off+pre.length,none⟩ (.slice (some ⟨pb,o2,none⟩) (p.length-(j+1)) (pc-(j+1)))).drew).heap.size:=by simp[World.setCell,World.drew];exact hn5
         have HO6:Aside (IOwn ((w5.setCell ⟨g,off+pre.length,none⟩ (.slice (some ⟨pb,o2,none⟩) (p.length-(j+1)) (pc-(j+1)))).drew) n₁ (.slice (some ⟨g4,0,none⟩) (row.length+1+1) c4) (x::(row++[y]))):=aac (aan HO5.out (p:=⟨g,off+pre.length,none⟩) hgn _) (Below.refl _ _).drew
         obtain⟨c0,c1,c2⟩:=hk5.cells
         have hfg:=hk5.frozeng (off+pre.length)
         obtain⟨u0,d0⟩: ∃u0,w5.cell? ⟨g,off+pre.length,none⟩=some u0:=by
          obtain⟨pb2,po2,pc2,d0,_⟩:=hk5.pieceA
          exact⟨_,d0⟩
         have hps2:(pre++List.drop j p::rest).length=ps.length:=by have:=HL2.out;simp;omega
         rw[hps2] at c2
         clear HJ HPJ HNOT HFB hps2 hk5 y1 y2 hkg5 HO5 HOL5 ho2 hpI
         go_upto_region 12 with fail
         go_region
         go_wp2_with fail
         go_roundw
         case rel=>exact⟨j+1,row++[y],g4,row.length+1+1,c4,by omega,by simp,by simp,HO6,HJ2,hrow2,y1',y2',hn6⟩
         case measure=>simp only[intOf];omega
     ·have hdr:p.drop j=[]:=List.drop_of_length_le (by omega)
      have HJ2:Hid (((aa1 (aaa L) (aaw E) m (x::row) rest).1,(pre++[[]])++(aa1 (aaa L) (aaw E) m (x::row) rest).2)=J):=by
       show _=_
       rw[←HJ.out,hdr,joinPs_nil]
       simp
      rw[hdr] at hk
      have hk':MWk w₁ bd T B g off cap ((pre++[[]])++rest) wr:=by simpa using hk
      clear HJ hdr hk
      go_wp2_with fail
      go_roundw
      case rel=>exact⟨pre++[[]],rest,row,g2,k2,cc2,by simp,by simp,by have:=HL2.out;show _=_;simp;omega,HOWN,HJ2,hrow,HP2,hk',hkg,hnr⟩
      case measure=>simp only[intOf];omega
end Go.Proofs.YtpfkoldfbecdlaaGreatDoor
