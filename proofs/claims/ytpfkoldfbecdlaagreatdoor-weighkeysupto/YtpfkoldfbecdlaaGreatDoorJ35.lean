/- Contracts and lemmas (nothing is claimed here). -/
import Derived.Test.YtpfkoldfbecdlaaGreatDoorJ28
import Derived.Test.YtpfkoldfbecdlaaGreatDoorJ17
import Derived.Test.YtpfkoldfbecdlaaGreatDoorJ10
import Derived.Test.YtpfkoldfbecdlaaGreatDoorJ11
import Derived.BigRegion
import Derived.Test.YtpfkoldfbecdlaaGreatDoorJ34
import Derived.Laws.EntriesVeiled
namespace Go.Proofs.YtpfkoldfbecdlaaGreatDoor
open Go.RowKit Go.Vf Go.Maps
theorem rightB_ok {e:El}(h:aai e=true):WtOk e:=by
 unfold aai wtB at h
 simp only[Bool.and_eq_true,decide_eq_true_eq] at h
 obtain⟨⟨⟨⟨⟨⟨h1,h2⟩,h3⟩,_⟩,_⟩,_⟩,_⟩:=h
 exact⟨h1,h2,h3⟩
theorem impR_ok (n:Int): ∀e∈impR n,WtOk e:=by
 intro e he
 unfold impR at he
 split at he
 ·rename_i h
  unfold acf at h
  simp only[Bool.and_eq_true,decide_eq_true_eq] at h
  have hb:=base_in n
  have h0:=h.1
  rcases List.mem_cons.1 he with rfl | he
  ·refine⟨?_,?_,?_⟩<;>simp only<;>omega
  ·rcases List.mem_cons.1 he with rfl | he
   ·refine⟨?_,?_,?_⟩<;>simp only<;>omega
   ·cases he
 ·cases he
theorem elsOf_ok {E:List Ent}(hok: ∀e∈E,EntOk e)(rs:List (List Int)): ∀e∈ad2 E rs,WtOk e:=by
 intro e he
 obtain⟨r,_,hr⟩:=List.mem_flatMap.1 he
 unfold af7 at hr
 cases hf:acm E r with
 | none=>rw[hf] at hr;exact impR_ok _ e hr
 | some l=>
  rw[hf] at hr
  have:=(hok _ (afd hf)).ok
  exact rightB_ok (List.all_eq_true.1 this e hr)
theorem elsOf_len {E:List Ent}(hok: ∀e∈E,EntOk e)(rs:List (List Int)):(ad2 E rs).length≤16*rs.length:=by
 induction rs with
 | nil=>simp[ad2]
 | cons r t ih=>
  have h1:=elOf_len hok r
  rw[show ad2 E (r::t)=af7 E r++ad2 E t from rfl,List.length_append,List.length_cons]
  omega
structure TbAt (w:World)(b bd T:Nat)(L:List Mk)(F:Int→List Int)(E:List Ent):Prop where
 blk:Blk w b 65 #[.pointer (some ⟨bd,0,none⟩),.pointer (some ⟨T,0,none⟩)]
 data:DataAt w bd L F
 tab: ∃me ml val,TabAt w T me ml val E
 load: ∃m,aav m=.ok (L,F)
theorem TbAt.below {w w':World}{b bd T:Nat}{L:List Mk}{F:Int→List Int}{E:List Ent}(h:TbAt w b bd T L F E)(hb:Below w.heap.size w w'):TbAt w' b bd T L F E:=by
 obtain⟨me,ml,val,ht⟩:=h.tab
 exact⟨h.blk.below hb h.blk.lt,h.data.below hb,⟨me,ml,val,ht.below hb⟩,h.load⟩
theorem TbAt.ok {w:World}{b bd T:Nat}{L:List Mk}{F:Int→List Int}{E:List Ent}(h:TbAt w b bd T L F E): ∀e∈E,EntOk e:=by
 obtain⟨me,ml,val,ht⟩:=h.tab
 exact ht.ok
def aeo (m e:List UInt8):Except (Int×Int×Int) ((List Mk×(Int→List Int))×List Ent):=
 match aav m with
 | .error (why,line)=>.error (why,1,line)
 | .ok d=>match ado e with
  | .error (why,line)=>.error (why,2,line)
  | .ok E=>.ok (d,E)
def LoadWPost (m e:List UInt8)(w:World)(r:Ending)(w':World):Prop:=
 Below w.heap.size w w'∧((∃why which line,aeo m e=.error (why,which,line)∧r=.returned (.tuple #[.pointer none,.int .i64 why,.int .i64 which,.int .i64 line]))∨
  (∃L F E b bd T,aeo m e=.ok ((L,F),E)∧r=.returned (.tuple #[.pointer (some ⟨b,0,none⟩),.int .i64 0,.int .i64 0,.int .i64 0])∧TbAt w' b bd T L F E))
theorem tabL_why: ∀(C:List (List UInt8)) (n:Int) (acc:List Ent) (why line:Int),ae9 C n acc=.error (why,line)→why≠0:=by
 intro C
 induction C with
 | nil=>intro n acc why line h;simp[ae9] at h
 | cons s r ih=>
  intro n acc why line h
  unfold ae9 at h
  split at h
  ·exact ih _ _ _ _ h
  ·split at h
   ·cases h;decide
   ·split at h
    ·split at h
     ·cases h;decide
     ·split at h
      ·cases h;decide
      ·exact ih _ _ _ _ h
    ·cases h;decide
theorem loadT_why {s:List UInt8}{why line:Int}(h:ado s=.error (why,line)):why≠0:=by
 unfold ado at h
 split at h
 ·cases h;decide
 ·exact tabL_why _ _ _ _ _ h
theorem loadT_glob (s:ByteArray)(w:World)(hg:Glob w)(hbig:s.size≤281474976710656):Calls Tryz.prog 18 #[.string s] w fun e w'=>LoadPost6 (ado s.data.toList) w e w':=by
 obtain⟨m,hm⟩:=hg
 exact load_any6 s m w hm hbig
theorem age {tmps:Array Value}{w:World}{a b c d:Value}(t2:tmps[4]?.getD undef=a)(t3:tmps[5]?.getD undef=b)(t4:tmps[6]?.getD undef=c)(t5:tmps[7]?.getD undef=d):(results Tryz.f5 tmps).run Tryz.prog w=.ok (.tuple #[a,b,c,d]) w:=by
 simp[results,Tryz.results5,go_sem,t2,t3,t4,t5]
set_option maxHeartbeats 2000000 in
theorem loadW_any (m e:ByteArray)(hm:m.size≤281474976710656)(he:e.size≤281474976710656)(w:World)(hg:Glob w):Calls Tryz.prog 5 #[.string m,.string e] w fun r w'=>LoadWPost m.data.toList e.data.toList w r w':=by
 have hl1:=load_glob m w hg hm
 go_enter Tryz.func5,Tryz.ntmps5
 go_wp2_with fail
 refine hl1.mono ?_
 rintro r w1 ⟨hb1,hp1⟩
 have hl2:=loadT_glob e w1 (hg.below hb1) he
 clear hl1
 cases h1:aav m.data.toList with
 | error q=>
  obtain⟨why,line⟩:=q
  rw[h1] at hp1
  obtain rfl:r=_:=hp1
  have hy0:=load_why h1
  have hy1:(why==0)=false:=by simpa using hy0
  have hy2:(why !=0)=true:=by simpa using hy0
  clear hl2
  go_wp2_with fail
  refine bodyPost_ret (age rfl rfl rfl rfl) rfl ?_
  exact⟨hb1,.inl ⟨why,1,line,by unfold aeo;rw[h1],rfl⟩⟩
 | ok q=>
  obtain⟨L,F⟩:=q
  rw[h1] at hp1
  obtain⟨bd,rfl,hd⟩:=hp1
  go_wp2_with fail
  refine hl2.mono ?_
  rintro r w2 ⟨hb2,hp2⟩
  have hb02:=hb1.trans (hb2.mono hb1.size)
  cases h2:ado e.data.toList with
  | error q2=>
   obtain⟨why2,line2⟩:=q2
   rw[h2] at hp2
   obtain rfl:r=_:=hp2
   have hy0:=loadT_why h2
   have hy1:(why2==0)=false:=by simpa using hy0
   have hy2:(why2 !=0)=true:=by simpa using hy0
   go_wp2_with fail
   refine bodyPost_ret (age rfl rfl rfl rfl) rfl ?_
   exact⟨hb02,.inl ⟨why2,2,line2,by unfold aeo;rw[h1];simp only[h2],rfl⟩⟩
  | ok E=>
   rw[h2] at hp2
   obtain⟨T,me,ml,val,rfl,ht⟩:=hp2
   have hb3:=(Below.refl w2.heap.size w2).alloc (Nat.le_refl _) (.cells #[.pointer (some ⟨bd,0,none⟩),.pointer (some ⟨T,0,none⟩)] 65)
   have hn3:=Blk.new w2 65 #[.pointer (some ⟨bd,0,none⟩),.pointer (some ⟨T,0,none⟩)]
   go_wp2_with fail
   refine bodyPost_ret (age rfl rfl rfl rfl) rfl ?_
   exact⟨hb02.trans (hb3.mono hb02.size),.inr ⟨L,F,E,w2.heap.size,bd,T,by unfold aeo;rw[h1];simp only[h2],rfl,hn3,(hd.below hb2).below hb3,⟨me,ml,val,ht.below hb3⟩,⟨_,h1⟩⟩⟩
def ad5 (s:Int)(sh:Bool)(size:Nat)(rest:List UInt8):Int:=if acp s sh=true then (if 65536<size then 2 else if rest=[] then 0 else 30) else 1
def ElPost (es:List El)(er:Int)(w:World)(e:Ending)(w':World):Prop:=
 Below w.heap.size w w'∧((er=0∧ ∃v,e=.returned (.tuple #[v,.int .i64 0])∧EOwn w' w.heap.size v es)∨(er≠0∧e=.returned (.tuple #[.slice none 0 0,.int .i64 er])))
theorem elements_nil (s:Int)(sh back:Bool)(txt:ByteArray)(w:World):Calls Tryz.prog 28 #[.pointer none,ag8 s sh back,.string txt] w fun e w'=>e=.returned (.tuple #[.slice none 0 0,.int .i64 3])∧Below w.heap.size w w':=by
 have hb0:=(Below.refl w.heap.size w).alloc (Nat.le_refl _) (.cells #[.int .i64 s,.bool sh,.bool back] 44)
 go_enter Tryz.func28,Tryz.ntmps28
 go_wp2_with fail
 go_ret2
 exact⟨rfl,hb0⟩
set_option maxHeartbeats 4000000 in
set_option maxRecDepth 20000 in
theorem welements_any {b bd T:Nat}{L:List Mk}{F:Int→List Int}{E:List Ent}{w:World}(h:TbAt w b bd T L F E)(hg:Tabs w)(s:Int)(hs:InI s)(sh back:Bool)(txt:ByteArray)(ps:List Nat)(rest:List UInt8)(ht:txt.data.toList=ac5 ps++rest)(hps: ∀p∈ps,ag9 p)(hrest:rest=[]∨ag7 rest){X:List Int}(hX:acq L F (ps.map fun p:Nat=>(p:Int)) X)(hXp:X.length≤57*ps.length):
  Calls Tryz.prog 28 #[.pointer (some ⟨b,0,none⟩),ag8 s sh back,.string txt] w fun e w'=>ElPost (ad2 E (aax (aaa L) (aaw E) X)) (ad5 s sh txt.size rest) w e w':=by
 have hb0:=(Below.refl w.heap.size w).alloc (Nat.le_refl _) (.cells #[.int .i64 s,.bool sh,.bool back] 44)
 have hn0:=Blk.new w 44 #[.int .i64 s,.bool sh,.bool back]
 have h0:=h.below hb0
 have hg0:=hg.own hb0
 have c0:(w.alloc (.cells #[.int .i64 s,.bool sh,.bool back] 44)).cell? ⟨w.heap.size,0,none⟩=some (.int .i64 s):=hn0.cell 0
 have c1:(w.alloc (.cells #[.int .i64 s,.bool sh,.bool back] 44)).cell? ⟨w.heap.size,1,none⟩=some (.bool sh):=hn0.cell 1
 have c2:(w.alloc (.cells #[.int .i64 s,.bool sh,.bool back] 44)).cell? ⟨w.heap.size,2,none⟩=some (.bool back):=hn0.cell 2
 have HER:Hid (ad5 s sh txt.size rest=if acp s sh=true then (if 65536<txt.size then 2 else if rest=[] then 0 else 30) else 1):=rfl
 generalize ad5 s sh txt.size rest=er at HER⊢
 generalize hes:ad2 E (aax (aaa L) (aaw E) X)=es
 have HES:Hid _:=hes
 clear hes
 go_enter Tryz.func28,Tryz.ntmps28
 go_upto_region 3 with fail
 generalize w.alloc (.cells #[.int .i64 s,.bool sh,.bool back] 44)=w0 at*
 have hir:=colRight_any s sh back w0 hs
 cases hrc:acp s sh with
 | false=>
  rw[hrc] at hir
  have her:er=1:=by rw[HER.out,hrc];rfl
  subst her
  go_wp2_with fail
  refine hir.mono ?_
  rintro _ w1 ⟨rfl,hb1⟩
  go_wp2_with fail
  go_ret2
  exact⟨hb0.trans (hb1.mono hb0.size),.inr ⟨by decide,rfl⟩⟩
 | true=>
  rw[hrc] at hir
  go_wp2_with fail
  refine hir.mono ?_
  rintro _ w1 ⟨rfl,hb1⟩
  have hb01:=hb0.trans (hb1.mono hb0.size)
  go_wp2_with fail
  refine(isLong_any txt w1).mono ?_
  rintro _ w2 ⟨rfl,rfl⟩
  by_cases hlong:65536<txt.size
  ·have her:er=2:=by rw[HER.out,hrc,if_pos rfl,if_pos hlong]
   subst her
   rw[decide_eq_true hlong]
   go_wp2_with fail
   go_ret2
   exact⟨hb01,.inr ⟨by decide,rfl⟩⟩
  ·rw[decide_eq_false hlong]
   have hpt:=points_any txt (by omega) ps rest ht hps hrest w1 (hg0.own hb1)
   go_wp2_with fail
   refine hpt.mono ?_
   rintro e w2 ⟨hp2,hb2⟩
   have hb02:=hb01.trans (hb2.mono hb01.size)
   rcases hp2 with ⟨hr0,v2,rfl,hown2⟩ | ⟨hr0,rfl⟩
   ·have her:er=0:=by rw[HER.out,hrc,if_pos rfl,if_neg hlong,if_pos hr0]
    subst her
    obtain⟨a2,cap2,rfl⟩:=hown2.val
    have hpl:(ps.map fun p:Nat=>(p:Int)).length≤65536:=by
     have h1:=abk ps
     have h2:(ac5 ps++rest).length=txt.size:=by rw[←ht,←Lib.size_eq]
     rw[List.length_append] at h2
     rw[List.length_map]
     omega
    have hnu:Numb w2 a2 (ps.map fun p:Nat=>(p:Int)).length cap2 (ps.map fun p:Nat=>(p:Int)):=⟨hown2.ints,rfl,fun q hq=>by
     obtain⟨p,hp,rfl⟩:=List.mem_map.1 hq
     have:=hps p hp
     unfold ag9 at this
     unfold InI
     omega,by omega⟩
    have h2:=(h0.below hb1).below hb2
    obtain⟨me,ml,val,htab⟩:=h2.tab
    obtain⟨tm,htm⟩:=h2.load
    have hXl:X.length≤57000000000:=by rw[List.length_map] at hpl;omega
    have hel:=fun W (hW:Below w2.heap.size w2 W)=>elements_any htm (h2.data.below hW) (htab.below hW) (⟨(hnu.ints.below hW (Nat.le_refl _)).mono hW.size,hnu.len,hnu.int,hnu.few⟩:Numb W a2 _ cap2 _) hX (by omega) hXl
    have hq0:w2.cell? ⟨b,0,none⟩=some (.pointer (some ⟨bd,0,none⟩)):=h2.blk.cell 0
    have hq1:w2.cell? ⟨b,1,none⟩=some (.pointer (some ⟨T,0,none⟩)):=h2.blk.cell 1
    rw[HES.out] at hel
    have HEL:Hid (∀W,Below w2.heap.size w2 W→Calls Tryz.prog 77 #[.pointer (some ⟨bd,0,none⟩),.pointer (some ⟨T,0,none⟩),.slice a2 (ps.map fun p:Nat=>(p:Int)).length cap2] W fun e w'=> ∃v,e=.returned v∧EOwn w' W.heap.size v es∧Below W.heap.size W w'):=hel
    generalize (ps.map fun p:Nat=>(p:Int)).length=pn at*
    clear hel hown2 hnu hpt hX htm htab h0 h hir
    go_upto_region 10 with fail
    have hbz:Below w2.heap.size w2 w2.drew:=(Below.refl _ w2).drew
    go_region_with (first | (go_at_call 77;with_reducible refine(HEL.out _ (by assumption)).mono ?_;rintro e w3 ⟨v3,rfl,hown3,hb3⟩))
    all_goals
     go_wp2_with fail
     go_ret2
     exact⟨hb02.trans ((hbz.trans (hb3.mono hbz.size)).mono hb02.size),.inl ⟨rfl,_,rfl,aae hown3 (Nat.le_trans hb02.size hbz.size)⟩⟩
   ·have her:er=30:=by rw[HER.out,hrc,if_pos rfl,if_neg hlong,if_neg hr0]
    subst her
    go_wp2_with fail
    go_ret2
    exact⟨hb02,.inr ⟨by decide,rfl⟩⟩
def lvC (sh back:Bool):Array Value:= #[.func (.func 78) #[] #[],.bool sh,.bool false,.func (.func 79) #[] #[],.bool sh,.bool back,.func (.func 80) #[] #[],.bool sh,.bool false,.func (.func 81) #[] #[],.bool sh,.bool false]
set_option maxHeartbeats 1000000 in
theorem levels_any (n:Nat)(hn:1≤n∧n≤4)(sh back:Bool)(w:World):Calls Tryz.prog 29 #[ag8 n sh back] w fun e w'=> ∃g,e=.returned (.slice (some ⟨g,0,none⟩) n 4)∧w.heap.size≤g∧Blk w' g 83 (lvC sh back)∧Below w.heap.size w w':=by
 have hb0:=(Below.refl w.heap.size w).alloc (Nat.le_refl _) (.cells #[.int .i64 n,.bool sh,.bool back] 44)
 have hn0:=Blk.new w 44 #[.int .i64 n,.bool sh,.bool back]
 have c0:(w.alloc (.cells #[.int .i64 n,.bool sh,.bool back] 44)).cell? ⟨w.heap.size,0,none⟩=some (.int .i64 n):=hn0.cell 0
 have c1:(w.alloc (.cells #[.int .i64 n,.bool sh,.bool back] 44)).cell? ⟨w.heap.size,1,none⟩=some (.bool sh):=hn0.cell 1
 have c2:(w.alloc (.cells #[.int .i64 n,.bool sh,.bool back] 44)).cell? ⟨w.heap.size,2,none⟩=some (.bool back):=hn0.cell 2
 go_enter Tryz.func29,Tryz.ntmps29
 go_upto_region 1 with fail
 generalize w.alloc (.cells #[.int .i64 n,.bool sh,.bool back] 44)=w0 at*
 have hb1:=(Below.refl w0.heap.size w0).alloc (Nat.le_refl _) (.cells (lvC sh back) 83)
 have hn1:Blk (w0.alloc (.cells (lvC sh back) 83)) w0.heap.size 83 (lvC sh back):=Blk.new w0 83 _
 have d0:=(hb1.cell (p:=⟨w.heap.size,0,none⟩) hn0.lt).trans c0
 unfold lvC at d0
 go_wp2_with fail
 go_ret
 exact⟨w0.heap.size,rfl,hb0.size,hn1,hb0.trans (hb1.mono hb0.size)⟩
def LvOwn (w:World)(g:Nat)(sh back:Bool):Prop:=w.ownsRow 0 83 3 (.slice (some ⟨g,0,none⟩) 4 4) 4 (lvC sh back).toList
theorem lv_of_blk {w:World}{g:Nat}{sh back:Bool}(h:Blk w g 83 (lvC sh back)):LvOwn w g sh back:=
 ⟨rfl,.inr ⟨g,4,lvC sh back,rfl,Nat.zero_le _,h,Nat.le_refl _,by unfold maxLen;omega,rfl,rfl⟩⟩
theorem lv_cells {W:World}{g:Nat}{sh back:Bool}(h:LvOwn W g sh back)(i:Nat)(hi:i<4):W.cell? ⟨g,i*3,none⟩=some (.func (.func (78+i)) #[] #[])∧W.cell? ⟨g,i*3+1,none⟩=some (.bool sh)∧W.cell? ⟨g,i*3+2,none⟩=some (.bool (decide (i=1)&&back)):=by
 have hc: ∀j u,(lvC sh back).toList[j]? =some u→W.cell? ⟨g,j,none⟩=some u:=fun j u hu=>by
  have:=World.ownsRow.cells (g:=g) h rfl j u hu
  rwa [show (⟨g,0,none⟩:Addr).add j=⟨g,j,none⟩ by by_cases hj:j=0<;>simp[Addr.add,hj]] at this
 match i,hi with
 | 0,_=>exact⟨hc 0 _ rfl,hc 1 _ rfl,hc 2 _ rfl⟩
 | 1,_=>exact⟨hc 3 _ rfl,hc 4 _ rfl,hc 5 _ rfl⟩
 | 2,_=>exact⟨hc 6 _ rfl,hc 7 _ rfl,hc 8 _ rfl⟩
 | 3,_=>exact⟨hc 9 _ rfl,hc 10 _ rfl,hc 11 _ rfl⟩
theorem lev_eq (sh back:Bool)(k:Nat)(es:List El):(if (decide (k=1)&&back)=true then (lvl sh k false es).reverse else lvl sh k false es)=lev sh back k es:=by
 unfold lev
 simp only[Bool.and_eq_true,decide_eq_true_eq]
theorem range_drop {n i:Nat}(h:i<n):(List.range n).drop i=i::(List.range n).drop (i+1):=by
 rw[List.drop_eq_getElem_cons (by simpa using h)]
 simp
theorem key_nil (s:Int)(sh back:Bool)(txt:ByteArray)(w:World):Calls Tryz.prog 11 #[.pointer none,ag8 s sh back,.string txt] w fun e w'=>e=.returned (.tuple #[.string ⟨#[]⟩,.int .i64 3])∧Below w.heap.size w w':=by
 have hb0:=(Below.refl w.heap.size w).alloc (Nat.le_refl _) (.cells #[.int .i64 s,.bool sh,.bool back] 44)
 have hn0:=Blk.new w 44 #[.int .i64 s,.bool sh,.bool back]
 have c0:(w.alloc (.cells #[.int .i64 s,.bool sh,.bool back] 44)).cell? ⟨w.heap.size,0,none⟩=some (.int .i64 s):=hn0.cell 0
 have c1:(w.alloc (.cells #[.int .i64 s,.bool sh,.bool back] 44)).cell? ⟨w.heap.size,1,none⟩=some (.bool sh):=hn0.cell 1
 have c2:(w.alloc (.cells #[.int .i64 s,.bool sh,.bool back] 44)).cell? ⟨w.heap.size,2,none⟩=some (.bool back):=hn0.cell 2
 go_enter Tryz.func11,Tryz.ntmps11
 go_wp2_with fail
 generalize w.alloc (.cells #[.int .i64 s,.bool sh,.bool back] 44)=w0 at*
 refine(elements_nil s sh back txt w0).mono ?_
 rintro _ w1 ⟨rfl,hb1⟩
 go_wp2_with fail
 go_ret2
 exact⟨rfl,hb0.trans (hb1.mono hb0.size)⟩
def KeyPost (s:Int)(sh back:Bool)(es:List El)(er:Int)(w:World)(e:Ending)(w':World):Prop:=
 Below w.heap.size w w'∧((er=0∧e=.returned (.tuple #[.string (bs (keyLv s.toNat sh back es)),.int .i64 0]))∨(er≠0∧e=.returned (.tuple #[.string ⟨#[]⟩,.int .i64 er])))
set_option maxHeartbeats 4000000 in
set_option maxRecDepth 20000 in
theorem key_any {es:List El}{er:Int}{b:Nat}{s:Int}{sh back:Bool}{txt:ByteArray}{w:World}(hok: ∀e∈es,WtOk e)(hes:es.length≤60000000)(hs:er=0→1≤s∧s≤4)
  (hel: ∀W,Below w.heap.size w W→Calls Tryz.prog 28 #[.pointer (some ⟨b,0,none⟩),ag8 s sh back,.string txt] W fun e w'=>ElPost es er W e w'):
  Calls Tryz.prog 11 #[.pointer (some ⟨b,0,none⟩),ag8 s sh back,.string txt] w fun e w'=>KeyPost s sh back es er w e w':=by
 have hb0:=(Below.refl w.heap.size w).alloc (Nat.le_refl _) (.cells #[.int .i64 s,.bool sh,.bool back] 44)
 have hn0:=Blk.new w 44 #[.int .i64 s,.bool sh,.bool back]
 have c0:(w.alloc (.cells #[.int .i64 s,.bool sh,.bool back] 44)).cell? ⟨w.heap.size,0,none⟩=some (.int .i64 s):=hn0.cell 0
 have c1:(w.alloc (.cells #[.int .i64 s,.bool sh,.bool back] 44)).cell? ⟨w.heap.size,1,none⟩=some (.bool sh):=hn0.cell 1
 have c2:(w.alloc (.cells #[.int .i64 s,.bool sh,.bool back] 44)).cell? ⟨w.heap.size,2,none⟩=some (.bool back):=hn0.cell 2
 have hel0:=hel _ hb0
 clear hel
 obtain⟨i5,hi5,hz0,hz1,hz2⟩:=info_parts info5
 go_enter Tryz.func11,Tryz.ntmps11
 go_wp2_with fail
 generalize w.alloc (.cells #[.int .i64 s,.bool sh,.bool back] 44)=w0 at*
 refine hel0.mono ?_
 rintro r w1 ⟨hb1,⟨rfl,v1,rfl,hown1⟩ | ⟨her,rfl⟩⟩
 ·obtain⟨n,rfl⟩: ∃n:Nat,s=(n:Int):=⟨s.toNat,by have:=hs rfl;omega⟩
  have hn:1≤n∧n≤4:=by have:=hs rfl;omega
  have hb01:=hb0.trans (hb1.mono hb0.size)
  have k0:=(hb1.cell (p:=⟨w.heap.size,0,none⟩) hn0.lt).trans c0
  have k1:=(hb1.cell (p:=⟨w.heap.size,1,none⟩) hn0.lt).trans c1
  have k2:=(hb1.cell (p:=⟨w.heap.size,2,none⟩) hn0.lt).trans c2
  obtain⟨ea,ec,rfl,_⟩:=hown1.cap
  have HE1:Aside (Els w1.heap.size w1 (.slice ea es.length ec) es):=EOwn.els hown1
  clear hs c0 c1 c2 hown1 hel0
  generalize hR:keyLv (n:Int).toNat sh back es=R
  have HR:Hid ([]++levs sh back es ((List.range n).drop 0)=R):=by show _=_;rw[←hR];simp[keyLv]
  have HKQ:Hid _:=hR
  clear hR
  go_upto_region 4 with fail
  go_cut [10] from 23 to 30 (fun kv wx=> ∃g c,kv=.slice (some ⟨g,0,none⟩) 0 c∧Aside (BOwn 5 wx w1.heap.size (.slice (some ⟨g,0,none⟩) 0 c) [])∧Below w1.heap.size w1 wx)
  case first=>
   clear HR
   have hmx:600000000≤maxLen:=by unfold maxLen;omega
   obtain rfl | rfl | rfl | rfl:n=1∨n=2∨n=3∨n=4:=by omega
   ·go_wp2_with (first | (refine wpList_make_own _ rfl _ _ 78 rfl w1.heap.size 5 i5 (.int .u8 0) 1 Tryz.underlying78 hi5 hz0 hz1 .i64 .i64 _ (2*(es.length+1)) rfl rfl (by omega) (by rw[hz2];omega) (by omega) (Nat.le_refl _) ?_;intro w2 hown2 hg2))
    go_meet
    exact⟨_,_,rfl,hown2,(Below.refl _ w1).grown hg2 (Nat.le_refl _) (fun j hj=>by cases hj)⟩
   ·go_wp2_with (first | (refine wpList_make_own _ rfl _ _ 78 rfl w1.heap.size 5 i5 (.int .u8 0) 1 Tryz.underlying78 hi5 hz0 hz1 .i64 .i64 _ (4*(es.length+1)) rfl rfl (by omega) (by rw[hz2];omega) (by omega) (Nat.le_refl _) ?_;intro w2 hown2 hg2))
    go_meet
    exact⟨_,_,rfl,hown2,(Below.refl _ w1).grown hg2 (Nat.le_refl _) (fun j hj=>by cases hj)⟩
   ·go_wp2_with (first | (refine wpList_make_own _ rfl _ _ 78 rfl w1.heap.size 5 i5 (.int .u8 0) 1 Tryz.underlying78 hi5 hz0 hz1 .i64 .i64 _ (6*(es.length+1)) rfl rfl (by omega) (by rw[hz2];omega) (by omega) (Nat.le_refl _) ?_;intro w2 hown2 hg2))
    go_meet
    exact⟨_,_,rfl,hown2,(Below.refl _ w1).grown hg2 (Nat.le_refl _) (fun j hj=>by cases hj)⟩
   ·go_wp2_with (first | (refine wpList_make_own _ rfl _ _ 78 rfl w1.heap.size 5 i5 (.int .u8 0) 1 Tryz.underlying78 hi5 hz0 hz1 .i64 .i64 _ (8*(es.length+1)) rfl rfl (by omega) (by rw[hz2];omega) (by omega) (Nat.le_refl _) ?_;intro w2 hown2 hg2))
    go_meet
    exact⟨_,_,rfl,hown2,(Below.refl _ w1).grown hg2 (Nat.le_refl _) (fun j hj=>by cases hj)⟩
  case rest=>
   obtain⟨g0,cp0,rfl,HB,hb2⟩:=hcut
   have m0:=(hb2.cell (p:=⟨w.heap.size,0,none⟩) (Nat.lt_of_lt_of_le hn0.lt hb1.size)).trans k0
   have m1:=(hb2.cell (p:=⟨w.heap.size,1,none⟩) (Nat.lt_of_lt_of_le hn0.lt hb1.size)).trans k1
   have m2:=(hb2.cell (p:=⟨w.heap.size,2,none⟩) (Nat.lt_of_lt_of_le hn0.lt hb1.size)).trans k2
   clear k0 k1 k2 hn0
   go_wp2_with fail
   refine(levels_any n hn sh back wc).mono ?_
   rintro _ w2 ⟨g,rfl,_,hlv,hb3⟩
   have HLV:Aside (LvOwn w2 g sh back):=lv_of_blk hlv
   have HB2:Aside (BOwn 5 w2 w1.heap.size (.slice (some ⟨g0,0,none⟩) 0 cp0) []):=aac HB.out hb3
   have hb13:=hb2.trans (hb3.mono hb2.size)
   clear HB hlv m0 m1 m2 hb2 hb3
   go_wp2_with fail
   go_loopw [10,34] (fun kv iv wr=> ∃(i:Nat) (ac:List UInt8) (a1:Option Addr) (c1:Nat),i≤n∧iv=.int .i64 i∧kv=.slice a1 ac.length c1∧Aside (BOwn 5 wr w1.heap.size (.slice a1 ac.length c1) ac)∧Hid (ac++levs sh back es ((List.range n).drop i)=R)∧Hid (ac.length≤i*120000002)∧Below w1.heap.size w1 wr∧Aside (LvOwn wr g sh back)) (fun _ iv _=>n-(intOf iv).toNat)
   case atStart=>exact⟨0,[],_,_,by omega,rfl,rfl,HB2,HR,by show _≤_;simp,hb13,HLV⟩
   case round=>
    clear HR HB2 HLV hb13
    obtain⟨i,ac,a1,c1,hi1,rfl,rfl,HB,HR,HL,hbr,HLV⟩:=hrel
    by_cases hlt:i<n
    ·obtain⟨l0,l1,l2⟩:=lv_cells HLV.out i (by omega)
     have hHR:=HR.out
     rw[range_drop hlt,levs_cons,←List.append_assoc] at hHR
     have HR2:Hid ((ac++rowK (lev sh back i es))++levs sh back es ((List.range n).drop (i+1))=R):=hHR
     have hal:=HL.out
     have hrl:=lev_len sh back i es
     have hbk:=lev_eq sh back i es
     have hrok:=lev_ok (sh:=sh) (back:=back) (k:=i) hok
     generalize (decide (i=1)&&back)=bk at l2 hbk
     have hb4:=(Below.refl wr.heap.size wr).alloc (Nat.le_refl _) (.cells #[.func (.func (78+i)) #[] #[],.bool sh,.bool bk] 83)
     have hn4:=Blk.new wr 83 #[.func (.func (78+i)) #[] #[],.bool sh,.bool bk]
     clear hHR HR
     go_upto_region 8 with fail
     have hw4:=ahd i (by omega) sh bk hok ((HE1.out.below hbr (Nat.le_refl _)).below hb4 hbr.size) (Nat.le_trans hbr.size hb4.size) (by omega)
     have HB4:Aside (BOwn 5 (wr.alloc (.cells #[.func (.func (78+i)) #[] #[],.bool sh,.bool bk] 83)) w1.heap.size (.slice a1 ac.length c1) ac):=aac HB.out hb4
     have HLV4:Aside (LvOwn (wr.alloc (.cells #[.func (.func (78+i)) #[] #[],.bool sh,.bool bk] 83)) g sh back):=aac HLV.out hb4
     have hb14:=hbr.trans (hb4.mono hbr.size)
     have y0:(wr.alloc (.cells #[.func (.func (78+i)) #[] #[],.bool sh,.bool bk] 83)).cell? ⟨wr.heap.size,0,none⟩=some (.func (.func (78+i)) #[] #[]):=hn4.cell 0
     have y1:(wr.alloc (.cells #[.func (.func (78+i)) #[] #[],.bool sh,.bool bk] 83)).cell? ⟨wr.heap.size,1,none⟩=some (.bool sh):=hn4.cell 1
     have y2:(wr.alloc (.cells #[.func (.func (78+i)) #[] #[],.bool sh,.bool bk] 83)).cell? ⟨wr.heap.size,2,none⟩=some (.bool bk):=hn4.cell 2
     rw[hbk] at hw4
     generalize wr.alloc (.cells #[.func (.func (78+i)) #[] #[],.bool sh,.bool bk] 83)=W4 at*
     clear HB HLV l0 l1 l2 hn4 hb4 hbr hbk
     go_wp2_with fail
     refine hw4.mono ?_
     rintro _ w5 ⟨u5,rfl,hu5,hb5⟩
     have hb15:=hb14.trans (hb5.mono hb14.size)
     have hkB:BOwn 5 w5 w1.heap.size (.slice a1 ac.length c1) ac:=aac HB4.out hb5
     have hlB:LvOwn w5 g sh back:=aac HLV4.out hb5
     generalize lev sh back i es=row at*
     have hap:=appendLevel_any hkB hu5 hrok (by omega) hb15.size
     have HLB:Aside (LvOwn w5 g sh back):=hlB
     clear hkB hw4 HB4 HLV4 hlB y0 y1 y2 hu5
     go_wp2_with fail
     refine hap.mono ?_
     rintro _ w6 ⟨v6,rfl,hk6,hb6,ho6⟩
     obtain⟨a6,c6,rfl⟩: ∃a6 c6,v6=.slice a6 (ac++rowK row).length c6:=by
      rcases hk6.form with ⟨rfl,e⟩ | ⟨g',c',rfl,_⟩
      ·exact⟨_,_,by rw[e];rfl⟩
      ·exact⟨_,_,rfl⟩
     have HK6:Aside (BOwn 5 w6 w1.heap.size (.slice a6 (ac++rowK row).length c6) (ac++rowK row)):=hk6
     have HL6:Aside (LvOwn w6 g sh back):=ho6 _ _ _ _ _ _ (by decide) HLB.out
     have hlen6:(ac++rowK row).length≤(i+1)*120000002:=by rw[List.length_append,rowK_len];omega
     have hb16:=hb15.trans hb6
     clear hk6 ho6 hap HLB
     generalize ac++rowK row=ac6 at*
     go_wp2_with fail
     go_roundw
     case rel=>exact⟨i+1,ac6,a6,c6,by omega,by simp,rfl,HK6,HR2,hlen6,hb16,HL6⟩
     case measure=>simp only[intOf];omega
    ·have hRR:R=ac:=by rw[←HR.out,List.drop_of_length_le (by simp;omega)];simp[levs]
     have hconv:=ag5 (P:=Tryz.prog) wr 78 9 5 Tryz.underlying78 Tryz.underlying5 Tryz.underlying9 w1.heap.size _ ac HB.out
     subst hRR
     clear HR
     go_wp2_with fail
     go_ret2
     exact⟨hb01.trans (hbr.mono hb01.size),.inl ⟨rfl,by rw[HKQ.out];rfl⟩⟩
 ·have hy1:(er==0)=false:=by simpa using her
  have hy2:(er !=0)=true:=by simpa using her
  go_wp2_with fail
  go_ret2
  exact⟨hb0.trans (hb1.mono hb0.size),.inr ⟨her,rfl⟩⟩
theorem wcompare_nil (s:Int)(sh back:Bool)(ta tb:ByteArray)(w:World):Calls Tryz.prog 13 #[.pointer none,ag8 s sh back,.string ta,.string tb] w fun e w'=>e=.returned (.tuple #[.int .i64 0,.int .i64 3])∧Below w.heap.size w w':=by
 have hb0:=(Below.refl w.heap.size w).alloc (Nat.le_refl _) (.cells #[.int .i64 s,.bool sh,.bool back] 44)
 have hn0:=Blk.new w 44 #[.int .i64 s,.bool sh,.bool back]
 have c0:(w.alloc (.cells #[.int .i64 s,.bool sh,.bool back] 44)).cell? ⟨w.heap.size,0,none⟩=some (.int .i64 s):=hn0.cell 0
 have c1:(w.alloc (.cells #[.int .i64 s,.bool sh,.bool back] 44)).cell? ⟨w.heap.size,1,none⟩=some (.bool sh):=hn0.cell 1
 have c2:(w.alloc (.cells #[.int .i64 s,.bool sh,.bool back] 44)).cell? ⟨w.heap.size,2,none⟩=some (.bool back):=hn0.cell 2
 go_enter Tryz.func13,Tryz.ntmps13
 go_wp2_with fail
 generalize w.alloc (.cells #[.int .i64 s,.bool sh,.bool back] 44)=w0 at*
 refine(elements_nil s sh back ta w0).mono ?_
 rintro _ w1 ⟨rfl,hb1⟩
 go_wp2_with fail
 go_ret2
 exact⟨rfl,hb0.trans (hb1.mono hb0.size)⟩
def CmpPost (s:Int)(sh back:Bool)(xs ys:List El)(ex ey:Int)(w:World)(e:Ending)(w':World):Prop:=
 Below w.heap.size w w'∧((ex=0∧ey=0∧e=.returned (.tuple #[.int .i64 (af3 sh back xs ys (List.range s.toNat)),.int .i64 0]))∨(ex≠0∧e=.returned (.tuple #[.int .i64 0,.int .i64 ex]))∨(ex=0∧ey≠0∧e=.returned (.tuple #[.int .i64 0,.int .i64 ey])))
set_option maxHeartbeats 8000000 in
set_option maxRecDepth 20000 in
theorem wcompare_any {xs ys:List El}{ex ey:Int}{b:Nat}{s:Int}{sh back:Bool}{ta tb:ByteArray}{w:World}(hokx: ∀e∈xs,WtOk e)(hoky: ∀e∈ys,WtOk e)(hlx:xs.length≤60000000)(hly:ys.length≤60000000)(hs:ex=0→1≤s∧s≤4)
  (helx: ∀W,Below w.heap.size w W→Calls Tryz.prog 28 #[.pointer (some ⟨b,0,none⟩),ag8 s sh back,.string ta] W fun e w'=>ElPost xs ex W e w')
  (hely: ∀W,Below w.heap.size w W→Calls Tryz.prog 28 #[.pointer (some ⟨b,0,none⟩),ag8 s sh back,.string tb] W fun e w'=>ElPost ys ey W e w'):
  Calls Tryz.prog 13 #[.pointer (some ⟨b,0,none⟩),ag8 s sh back,.string ta,.string tb] w fun e w'=>CmpPost s sh back xs ys ex ey w e w':=by
 have hb0:=(Below.refl w.heap.size w).alloc (Nat.le_refl _) (.cells #[.int .i64 s,.bool sh,.bool back] 44)
 have hn0:=Blk.new w 44 #[.int .i64 s,.bool sh,.bool back]
 have c0:(w.alloc (.cells #[.int .i64 s,.bool sh,.bool back] 44)).cell? ⟨w.heap.size,0,none⟩=some (.int .i64 s):=hn0.cell 0
 have c1:(w.alloc (.cells #[.int .i64 s,.bool sh,.bool back] 44)).cell? ⟨w.heap.size,1,none⟩=some (.bool sh):=hn0.cell 1
 have c2:(w.alloc (.cells #[.int .i64 s,.bool sh,.bool back] 44)).cell? ⟨w.heap.size,2,none⟩=some (.bool back):=hn0.cell 2
 have hx0:=helx _ hb0
 have HELY:Hid _:=hely
 clear helx hely
 go_enter Tryz.func13,Tryz.ntmps13
 go_wp2_with fail
 generalize w.alloc (.cells #[.int .i64 s,.bool sh,.bool back] 44)=w0 at*
 refine hx0.mono ?_
 rintro r w1 ⟨hb1,⟨rfl,v1,rfl,hown1⟩ | ⟨her,rfl⟩⟩
 ·have hb01:=hb0.trans (hb1.mono hb0.size)
  have hy0:=HELY.out w1 hb01
  have k0:=(hb1.cell (p:=⟨w.heap.size,0,none⟩) hn0.lt).trans c0
  have k1:=(hb1.cell (p:=⟨w.heap.size,1,none⟩) hn0.lt).trans c1
  have k2:=(hb1.cell (p:=⟨w.heap.size,2,none⟩) hn0.lt).trans c2
  obtain⟨xa,xc,rfl,_⟩:=hown1.cap
  have HX1:Aside (Els w1.heap.size w1 (.slice xa xs.length xc) xs):=EOwn.els hown1
  clear hx0 HELY c0 c1 c2 hown1
  go_wp2_with fail
  refine hy0.mono ?_
  rintro r w2 ⟨hb2,⟨rfl,v2,rfl,hown2⟩ | ⟨her,rfl⟩⟩
  ·obtain⟨n,rfl⟩: ∃n:Nat,s=(n:Int):=⟨s.toNat,by have:=hs (by first | rfl | trivial);omega⟩
   have hn:1≤n∧n≤4:=by have:=hs (by first | rfl | trivial);omega
   have hb02:=hb01.trans (hb2.mono hb01.size)
   have hw1:w.heap.size<w1.heap.size:=Nat.lt_of_lt_of_le hn0.lt hb1.size
   have m0:=(hb2.cell (p:=⟨w.heap.size,0,none⟩) hw1).trans k0
   have m1:=(hb2.cell (p:=⟨w.heap.size,1,none⟩) hw1).trans k1
   have m2:=(hb2.cell (p:=⟨w.heap.size,2,none⟩) hw1).trans k2
   obtain⟨ya,yc,rfl,_⟩:=hown2.cap
   have HY2:Aside (Els w2.heap.size w2 (.slice ya ys.length yc) ys):=EOwn.els hown2
   have HX2:Aside (Els w2.heap.size w2 (.slice xa xs.length xc) xs):=(HX1.out.below hb2 (Nat.le_refl _)).mono hb2.size
   generalize hR:af3 sh back xs ys (List.range (n:Int).toNat)=R
   have HR:Hid (af3 sh back xs ys ((List.range n).drop 0)=R):=by show _=_;rw[←hR];simp
   have HKQ:Hid _:=hR
   clear hR hs k0 k1 k2 hown2 HX1 hy0 hn0
   go_wp2_with fail
   refine(levels_any n hn sh back w2).mono ?_
   rintro _ w3 ⟨g,rfl,_,hlv,hb3⟩
   have HLV:Aside (LvOwn w3 g sh back):=lv_of_blk hlv
   have HX3:Aside (Els w3.heap.size w3 (.slice xa xs.length xc) xs):=(HX2.out.below hb3 (Nat.le_refl _)).mono hb3.size
   have HY3:Aside (Els w3.heap.size w3 (.slice ya ys.length yc) ys):=(HY2.out.below hb3 (Nat.le_refl _)).mono hb3.size
   have hb03:=hb02.trans (hb3.mono hb02.size)
   clear hlv m0 m1 m2 HX2 HY2 hb2 hb3
   go_wp2_with fail
   go_loopw [39] (fun iv wr=> ∃(i:Nat),i≤n∧iv=.int .i64 i∧Hid (af3 sh back xs ys ((List.range n).drop i)=R)∧Below w3.heap.size w3 wr) (fun iv _=>n-(intOf iv).toNat)
   case atStart=>exact⟨0,by omega,rfl,HR,Below.refl _ _⟩
   case round=>
    clear HR
    obtain⟨i,hi1,rfl,HR,hbr⟩:=hrel
    by_cases hlt:i<n
    ·obtain⟨l0,l1,l2⟩:=lv_cells (show LvOwn wr g sh back from aac HLV.out hbr) i (by omega)
     have hHR:=HR.out
     rw[range_drop hlt] at hHR
     have HRQ:Hid ((if cmpU (lev sh back i xs) (lev sh back i ys)=0 then af3 sh back xs ys ((List.range n).drop (i+1)) else cmpU (lev sh back i xs) (lev sh back i ys))=R):=hHR
     have hrlx:=lev_len sh back i xs
     have hrly:=lev_len sh back i ys
     have hbkx:=lev_eq sh back i xs
     have hbky:=lev_eq sh back i ys
     generalize (decide (i=1)&&back)=bk at l2 hbkx hbky
     have hb4:=(Below.refl wr.heap.size wr).alloc (Nat.le_refl _) (.cells #[.func (.func (78+i)) #[] #[],.bool sh,.bool bk] 83)
     have hn4:=Blk.new wr 83 #[.func (.func (78+i)) #[] #[],.bool sh,.bool bk]
     clear hHR HR
     go_upto_region 10 with fail
     have hx4:=(HX3.out.below hbr (Nat.le_refl _)).below hb4 hbr.size
     have hy4:=(HY3.out.below hbr (Nat.le_refl _)).below hb4 hbr.size
     have hb14:=hbr.trans (hb4.mono hbr.size)
     have y0:(wr.alloc (.cells #[.func (.func (78+i)) #[] #[],.bool sh,.bool bk] 83)).cell? ⟨wr.heap.size,0,none⟩=some (.func (.func (78+i)) #[] #[]):=hn4.cell 0
     have y1:(wr.alloc (.cells #[.func (.func (78+i)) #[] #[],.bool sh,.bool bk] 83)).cell? ⟨wr.heap.size,1,none⟩=some (.bool sh):=hn4.cell 1
     have y2:(wr.alloc (.cells #[.func (.func (78+i)) #[] #[],.bool sh,.bool bk] 83)).cell? ⟨wr.heap.size,2,none⟩=some (.bool bk):=hn4.cell 2
     have hlt4:=hn4.lt
     generalize wr.alloc (.cells #[.func (.func (78+i)) #[] #[],.bool sh,.bool bk] 83)=W4 at*
     have HWX:Hid (∀W,Below W4.heap.size W4 W→Calls Tryz.prog 31 #[lvA (78+i) sh bk,.slice xa xs.length xc] W fun e w'=> ∃u,e=.returned u∧Uns w' u (lev sh back i xs)∧Below W4.heap.size W4 w'∧w'.cell? ⟨wr.heap.size,0,none⟩=some (.func (.func (78+i)) #[] #[])∧w'.cell? ⟨wr.heap.size,1,none⟩=some (.bool sh)∧w'.cell? ⟨wr.heap.size,2,none⟩=some (.bool bk)):=fun W hW=>by
      refine(ahd i (by omega) sh bk hokx (hx4.below hW hb14.size) (Nat.le_trans hb14.size hW.size) (by omega)).mono ?_
      rintro _ w' ⟨u,rfl,hu,hb⟩
      rw[hbkx] at hu
      have hbb:=hW.trans (hb.mono hW.size)
      exact⟨u,rfl,hu.uns,hbb,(hbb.cell (p:=⟨wr.heap.size,0,none⟩) hlt4).trans y0,(hbb.cell (p:=⟨wr.heap.size,1,none⟩) hlt4).trans y1,(hbb.cell (p:=⟨wr.heap.size,2,none⟩) hlt4).trans y2⟩
     have HWY:Hid (∀W u5,Below W4.heap.size W4 W→Uns W u5 (lev sh back i xs)→Calls Tryz.prog 31 #[lvA (78+i) sh bk,.slice ya ys.length yc] W fun e w'=> ∃u,e=.returned u∧Uns w' u (lev sh back i ys)∧Uns w' u5 (lev sh back i xs)∧Below W4.heap.size W4 w'):=fun W u5 hW hu5=>by
      refine(ahd i (by omega) sh bk hoky (hy4.below hW hb14.size) (Nat.le_trans hb14.size hW.size) (by omega)).mono ?_
      rintro _ w' ⟨u,rfl,hu,hb⟩
      rw[hbky] at hu
      exact⟨u,rfl,hu.uns,hu5.below hb,hW.trans (hb.mono hW.size)⟩
     have HCC:Hid (∀W u5 u6,Uns W u5 (lev sh back i xs)→Uns W u6 (lev sh back i ys)→Calls Tryz.prog 33 #[u5,u6] W fun e w'=>e=.returned (.int .i64 (cmpU (lev sh back i xs) (lev sh back i ys)))∧W=w'):=fun W u5 u6 h5 h6=>cmpU_any u5 u6 _ _ W h5 h6 (by omega) (by omega)
     generalize lev sh back i xs=rx at*
     generalize lev sh back i ys=ry at*
     have hbz:Below W4.heap.size W4 W4.drew:=(Below.refl _ W4).drew
     clear hx4 hy4 hbkx hbky l0 l1 l2 hb4 hn4
     go_cut [15] from 43 to 49 (fun v wx=>v=.int .i64 (cmpU rx ry)∧Below W4.heap.size W4 wx)
     case first=>
      go_region_with (first | (go_at_call 31;with_reducible refine(HWX.out _ (by assumption)).mono ?_;rintro e w5 ⟨u5,rfl,hu5,hb5,z0,z1,z2⟩) | (go_at_call 31;with_reducible refine(HWY.out _ _ (by assumption) (by assumption)).mono ?_;rintro e w6 ⟨u6,rfl,hu6,hu7,hb6⟩) | (go_at_call 33;with_reducible refine(HCC.out _ _ _ (by assumption) (by assumption)).mono ?_;rintro e w7 ⟨rfl,rfl⟩))
      all_goals
       go_wp2_with fail
       go_meet
       exact⟨rfl,by assumption⟩
     case rest=>
      obtain⟨rfl,hb6⟩:=hcut
      have hb16:=hb14.trans (hb6.mono hb14.size)
      by_cases hz:cmpU rx ry=0
      ·have hzt:(cmpU rx ry !=0)=false:=by simp[hz]
       have HR2:Hid (af3 sh back xs ys ((List.range n).drop (i+1))=R):=by show _=_;rw[←HRQ.out,if_pos hz]
       clear HRQ hz
       go_wp2_with fail
       go_roundw
       case rel=>exact⟨i+1,by omega,by simp,HR2,hb16⟩
       case measure=>simp only[intOf];omega
      ·have hzt:(cmpU rx ry !=0)=true:=by simp[hz]
       have hRR:R=cmpU rx ry:=by rw[←HRQ.out,if_neg hz]
       clear HRQ hz
       go_wp2_with fail
       go_ret2
       exact⟨hb03.trans (hb16.mono hb03.size),.inl ⟨rfl,rfl,by rw[HKQ.out,hRR];rfl⟩⟩
    ·have hRR:R=0:=by rw[←HR.out,List.drop_of_length_le (by simp;omega)];rfl
     clear HR
     go_wp2_with fail
     go_ret2
     exact⟨hb03.trans (hbr.mono hb03.size),.inl ⟨rfl,rfl,by rw[HKQ.out,hRR];rfl⟩⟩
  ·have hy1:(ey==0)=false:=by simpa using her
   have hy2:(ey !=0)=true:=by simpa using her
   go_wp2_with fail
   go_ret2
   exact⟨hb01.trans (hb2.mono hb01.size),.inr (.inr ⟨rfl,her,rfl⟩)⟩
 ·have hy1:(ex==0)=false:=by simpa using her
  have hy2:(ex !=0)=true:=by simpa using her
  go_wp2_with fail
  go_ret2
  exact⟨hb0.trans (hb1.mono hb0.size),.inr (.inl ⟨her,rfl⟩)⟩
end Go.Proofs.YtpfkoldfbecdlaaGreatDoor
