/- Contracts and lemmas (nothing is claimed here). -/
import Derived.Test.YtfhpgmlfgjfknaaGreatDoorJ35
import Derived.Test.YtfhpgmlfgjfknaaGreatDoorJ29
namespace Go.Proofs.YtfhpgmlfgjfknaaGreatDoor
open Go.Vf
theorem a4m {e:El}: ∀b∈elP e,b≠59:=by
 intro b hb
 unfold elP at hb
 simp only[List.mem_cons,List.mem_append,List.not_mem_nil,or_false] at hb
 rcases hb with rfl | rfl | hb | rfl | hb | rfl | hb | rfl
 ·decide
 ·split<;>decide
 ·exact(aa8 hb).2.2.1
 ·decide
 ·exact(aa8 hb).2.2.1
 ·decide
 ·exact(aa8 hb).2.2.1
 ·decide
theorem an6 {l:List UInt8}{x:Ent}(h:aee l=some x):aij (aih 59 l).1=some x.1∧aik (aih 59 l).2=some x.2:=by
 unfold aee at h
 split at h
 ·cases h
 ·rename_i p hp
  split at h
  ·cases h
  ·rename_i e he
   cases h
   exact⟨hp,he⟩
theorem apq {l a b:List UInt8}(h:aa3 59 l=[a,b]):aih 59 l=(a,b):=by
 have hj:=ajc 59 l
 rw[h] at hj
 simp only[List.flatMap_cons,List.flatMap_nil,List.append_nil] at hj
 have hn:=a6u 59 l a (by rw[h];simp)
 rw[hj]
 exact aj1 59 a b hn
theorem a4h {l:List UInt8}(h:(aa3 59 l).length≠2):aee l=none:=by
 cases hx:aee l with
 | none=>rfl
 | some x=>
  exfalso
  have e:=arl hx
  have h1:aa3 59 l=[a2a x.1,afu x.2]:=by
   rw[e,ahb,ace 59 _ _ (fun b hb=>(aoy b hb).2),ac9]
   intro b hb
   obtain⟨y,_,hy⟩:=List.mem_flatMap.1 hb
   exact a4m b hy
  rw[h1] at h
  exact h rfl
theorem a6q {l a b:List UInt8}(h:aa3 59 l=[a,b]){p:List Int}{e:List El}(hp:aij a=some p)(he:aik b=some e):aee l=some (p,e):=by
 unfold aee
 rw[apq h]
 simp only[hp,he]
theorem ajy {l a b:List UInt8}(h:aa3 59 l=[a,b])(hp:aij a=none):aee l=none:=by
 unfold aee
 rw[apq h]
 simp only[hp]
theorem an7 {l a b:List UInt8}(h:aa3 59 l=[a,b])(hp:aik b=none):aee l=none:=by
 cases hx:aee l with
 | none=>rfl
 | some x=>
  have:=(an6 hx).2
  rw[apq h,hp] at this
  cases this
theorem ajp {a:List UInt8}{p:List Int}(h:aij a=some p):aa3 32 a=(p.map Int.toNat).map aae∧(aa3 32 a).length=p.length∧adp p=true:=by
 unfold aij at h
 split at h
 ·cases h
 ·rename_i l hl
  split at h
  ·rename_i hb
   cases h
   obtain⟨h1,h2⟩:=aqn _ _ hl
   exact⟨h1,h2,hb⟩
  ·cases h
theorem aqe {p:List Int}(h:adp p=true):1≤p.length∧p.length≤8:=by
 unfold adp at h
 simp only[Bool.and_eq_true,decide_eq_true_eq] at h
 exact⟨h.1.1,h.1.2⟩
theorem ay0 {a:List UInt8}(h:8<(aa3 32 a).length):aij a=none:=by
 cases hx:aij a with
 | none=>rfl
 | some p=>
  obtain⟨_,h2,h3⟩:=ajp hx
  have:=aqe h3
  omega
theorem a2p {a:List UInt8}{i:Nat}(hi:i<(aa3 32 a).length)(h: ∀n:Nat,adc (n:Int)=true→(aa3 32 a)[i]≠aae n):aij a=none:=by
 cases hx:aij a with
 | none=>rfl
 | some p=>
  exfalso
  obtain⟨h1,h2,h3⟩:=ajp hx
  have hip:i<p.length:=by omega
  have hb:adc p[i]=true:=by
   unfold adp at h3
   simp only[Bool.and_eq_true] at h3
   exact List.all_eq_true.1 h3.2 _ (List.getElem_mem hip)
  obtain⟨u,e,_⟩:=ad7 hb
  refine h u (by rw[←e];exact hb) ?_
  have h4:(aa3 32 a)[i]? =some (aae u):=by
   rw[h1]
   simp[hip,e]
  rw[List.getElem?_eq_getElem hi] at h4
  exact Option.some.inj h4
theorem ay1 {a:List UInt8}{us:List Nat}(h:aa3 32 a=us.map aae)(h8:us.length≤8)(hb: ∀u∈us,adc (u:Int)=true):aij a=some (us.map fun q:Nat=>(q:Int)):=by
 have hle: ∀q∈us,q≤1114111:=fun q hq=>by
  obtain⟨u,e,hu⟩:=ad7 (hb q hq)
  omega
 have h1:1≤us.length:=by
  have:=List.length_pos_iff.2 (aig 32 a)
  rw[h,List.length_map] at this
  omega
 unfold aij
 rw[h,au9 us hle]
 have hr:adp (us.map fun q:Nat=>(q:Int))=true:=by
  unfold adp
  simp only[Bool.and_eq_true,decide_eq_true_eq,List.length_map]
  refine⟨⟨h1,h8⟩,List.all_eq_true.2 fun x hx=> ?_⟩
  obtain⟨u,hu,rfl⟩:=List.mem_map.1 hx
  exact hb u hu
 simp only[hr,if_true]
theorem al8 (a b:List El):afu (a++b)=afu a++afu b:=by simp[afu]
theorem elsR_len {b:List UInt8}{l:List El}(h:aik b=some l):1≤l.length∧l.length≤16:=by
 obtain⟨h1,h2⟩:=ai8 h
 have h3:=aeq l h2
 rw[←h1] at h3
 unfold aik at h
 split at h
 ·cases h
 ·rename_i hn
  simp only[not_or,Decidable.not_not] at hn
  obtain⟨n1,n2,n3⟩:=hn
  have:b.length≠0:=fun e=>n1 (List.eq_nil_of_length_eq_zero e)
  omega
theorem a4k {b r:List UInt8}{acc:List El}(hb:b=afu acc++r)(hw: ∀e∈acc,wtE e)(hr:r≠ [])(h: ∀e',17≤r.length→elR (r.take 17)≠some e'):aik b=none:=by
 cases hx:aik b with
 | none=>rfl
 | some l=>
  exfalso
  obtain⟨h1,h2⟩:=ai8 hx
  have hla:=aeq acc hw
  have hll:=aeq l h2
  have hlt:acc.length<l.length:=by
   have:0<r.length:=List.length_pos_iff.2 hr
   have e:(afu acc++r).length=(afu l).length:=by rw[←hb,h1]
   rw[List.length_append] at e
   omega
  have hl2:l=l.take acc.length++l.drop acc.length:=(List.take_append_drop _ _).symm
  have h3:afu acc++r=afu (l.take acc.length)++afu (l.drop acc.length):=by rw[←al8,←hl2,←hb,h1]
  have hlt2:(afu (l.take acc.length)).length=(afu acc).length:=by
   rw[aeq _ (fun e he=>h2 e (List.mem_of_mem_take he)),hla,List.length_take]
   omega
  have h4:=(List.append_inj h3 hlt2.symm).2
  rw[List.drop_eq_getElem_cons hlt] at h4
  have hwt:=h2 _ (List.getElem_mem hlt)
  have h5:r=elP l[acc.length]++afu (l.drop (acc.length+1)):=h4
  have h6:=auf hwt
  refine h l[acc.length] (by rw[h5,List.length_append];omega) ?_
  rw[h5,List.take_append_of_le_length (by omega),List.take_of_length_le (by omega)]
  exact aue hwt
theorem a4j {b:List UInt8}{acc:List El}(hb:b=afu acc)(hw: ∀e∈acc,wtE e):(1≤acc.length∧acc.length≤16→aik b=some acc)∧(¬(1≤acc.length∧acc.length≤16)→aik b=none):=by
 refine⟨fun h=>by rw[hb];exact arn h.1 h.2 hw,fun h=> ?_⟩
 cases hx:aik b with
 | none=>rfl
 | some l=>
  exfalso
  have h1:=elsR_len hx
  obtain⟨h2,h3⟩:=ai8 hx
  have h4:=aeq acc hw
  have h5:=aeq l h3
  rw[←h2,hb] at h5
  omega
theorem a1c {b r:List UInt8}{acc:List El}{e:El}(hb:b=afu acc++r)(hl:17≤r.length)(h:elR (r.take 17)=some e):b=afu (acc++[e])++r.drop 17∧wtE e:=by
 obtain⟨hw,hp⟩:=aug (by rw[List.length_take];omega) h
 refine⟨?_,hw⟩
 rw[hb,al8]
 have:afu [e]=r.take 17:=by rw[hp];simp[afu]
 rw[this,List.append_assoc,List.take_append_drop]
end Go.Proofs.YtfhpgmlfgjfknaaGreatDoor
namespace Go.Proofs.YtfhpgmlfgjfknaaGreatDoor
open Go.RowKit Go.Vf Go.Maps
def a18 (l:List UInt8)(w:World)(e:Ending)(w':World):Prop:=Below w.heap.size w w'∧ ∃(pa:Option Addr) (pn pc:Nat) (ea:Option Addr) (en ec:Nat) (ok:Bool),e=.returned (.tuple #[.agg #[.slice pa pn pc,.slice ea en ec],.bool ok])∧((ok=true∧ ∃x,aee l=some x∧IOwn w' w.heap.size (.slice pa pn pc) x.1∧EOwn w' w.heap.size (.slice ea en ec) x.2)∨(ok=false∧aee l=none))
theorem abq {tmps:Array Value}{w:World}{h:Nat}{x y b:Value}(hb:Blk w h 160 #[x,y])(t2:tmps[2]?.getD undef=.pointer (some ⟨h,0,none⟩))(t3:tmps[3]?.getD undef=b):
  (results Tryz.f99 tmps).run Tryz.prog w=.ok (.tuple #[.agg #[x,y],b]) w:=by
 have c0:w.cell? ⟨h,0,none⟩=some x:=hb.cell 0
 have c1:w.cell? ⟨h,1,none⟩=some y:=hb.cell 1
 simp[results,Tryz.results99,go_sem,t2,t3,c0,c1]
abbrev put2 (w:World)(h:Nat)(a b:Value):World:=(w.setCell ⟨h,0,none⟩ a).setCell ⟨h,1,none⟩ b
theorem Blk.put2 {w:World}{h:Nat}{t:TypeId}{a b:Value}(hb:Blk w h t #[a,b])(a' b':Value):Blk (put2 w h a' b') h t #[a',b']:=(hb.set 0 a').set 1 b'
theorem aeu {B:Nat}{a w:World}{h:Nat}(hb:Below B a w)(hB:B≤h)(a' b':Value):Below B a (put2 w h a' b'):=(hb.setCell (p:=⟨h,0,none⟩) hB _).setCell (p:=⟨h,1,none⟩) hB _
structure TwoC (w:World)(h:Nat)(a b:Value):Prop where
 c0:w.cell? ⟨h,0,none⟩=some a
 c1:w.cell? ⟨h,1,none⟩=some b
 f0:w.frozen? ⟨h,0,none⟩=false
 f1:w.frozen? ⟨h,1,none⟩=false
theorem afx {w:World}{h:Nat}{t:TypeId}{a b:Value}(hb:Blk w h t #[a,b]):TwoC w h a b:=⟨hb.cell 0,hb.cell 1,hb.frozen 0,hb.frozen 1⟩
theorem a3q {α:Type}{l:List α}(h:l.length=2): ∃a b,l=[a,b]:=by
 match l,h with
 | [a,b],_=>exact⟨a,b,rfl⟩
theorem azl {w w':World}{base:Nat}{e:TypeId}{size:Nat}{v:Value}{k:Nat}{xs:List Value}(h:w.ownsRow base e size v k xs)(hk: ∀j,v.ownBlock=some j→w'.heap[j]? =w.heap[j]?):w'.ownsRow base e size v k xs:=by
 refine⟨h.1,?_⟩
 rcases h.2 with hn | ⟨g,cap,cur,rfl,hb,hgg,rest⟩
 ·exact .inl hn
 ·exact .inr ⟨g,cap,cur,rfl,hb,(hk g (by simp[Value.ownBlock])).trans hgg,rest⟩
set_option maxHeartbeats 8000000 in
set_option maxRecDepth 20000 in
theorem aqi (s:ByteArray)(hs:s.size≤65536)(w:World):Calls Tryz.prog 99 #[.string s] w fun e w'=>a18 s.data.toList w e w':=by
 have hb0:=((Below.refl w.heap.size w).alloc (Nat.le_refl _) (.cells #[.slice none 0 0,.slice none 0 0] 160)).alloc (by simp) (.cells #[.slice none 0 0,.slice none 0 0] 160)
 have hn1:Blk ((w.alloc (.cells #[.slice none 0 0,.slice none 0 0] 160)).alloc (.cells #[.slice none 0 0,.slice none 0 0] 160)) w.heap.size 160 #[.slice none 0 0,.slice none 0 0]:=(Below.heap_alloc _ _ _ (by simp)).trans (Blk.new w 160 _)
 have hn2:Blk ((w.alloc (.cells #[.slice none 0 0,.slice none 0 0] 160)).alloc (.cells #[.slice none 0 0,.slice none 0 0] 160)) (w.heap.size+1) 160 #[.slice none 0 0,.slice none 0 0]:=by
  have:=Blk.new (w.alloc (.cells #[.slice none 0 0,.slice none 0 0] 160)) 160 #[.slice none 0 0,.slice none 0 0]
  simpa using this
 have hsz:((w.alloc (.cells #[.slice none 0 0,.slice none 0 0] 160)).alloc (.cells #[.slice none 0 0,.slice none 0 0] 160)).heap.size=w.heap.size+2:=by simp
 go_enter Tryz.func99,Tryz.ntmps99
 go_upto_region 2 with fail
 generalize (w.alloc (.cells #[.slice none 0 0,.slice none 0 0] 160)).alloc (.cells #[.slice none 0 0,.slice none 0 0] 160)=W at hb0 hn1 hn2 hsz⊢
 have HSZ:Hid (W.heap.size=w.heap.size+2):=hsz
 clear hsz
 have hcut:=ahi s 59 hs W
 go_wp2_with fail
 refine hcut.mono ?_
 rintro e w1 ⟨a1,k1,c1,rfl,hown1,hb1⟩
 have hr1:=hn1.below hb1 hn1.lt
 have hm1:=hn2.below hb1 hn2.lt
 have hbw1:Below w.heap.size w w1:=hb0.trans (hb1.mono hb0.size)
 have hW1:w.heap.size+2≤w1.heap.size:=by have:=hb1.size;rw[HSZ.out] at this;exact this
 have hk1:k1=(aa3 59 s.data.toList).length:=by obtain⟨_,_,e⟩:=aax hown1;cases e;rfl
 have HSS:Hid (∀x∈aa3 59 s.data.toList,x.length≤65536):=fun x hx=>Nat.le_trans (abj 59 _ x hx) (by rw[←Lib.size_eq];exact hs)
 by_cases h3:k1=2
 ·rw[h3] at hk1
  obtain⟨ta,tb,hcl⟩: ∃ta tb,aa3 59 s.data.toList=[ta,tb]:=a3q hk1.symm
  have HCL:Hid (aa3 59 s.data.toList=[ta,tb]):=hcl
  have hza:=HSS.out ta (by rw[hcl];simp)
  have hzb:=HSS.out tb (by rw[hcl];simp)
  rw[hcl] at hown1
  obtain⟨g,cp,e1,hg,hgW,hcells⟩:=hown1.cells (by simp)
  rw[HSZ.out] at hgW
  cases e1
  have q0:=hcells 0 (by simp)
  have q1:=hcells 1 (by simp)
  simp only[List.getElem_cons_zero,List.getElem_cons_succ] at q0 q1
  clear hcells hk1 hcl hown1 HSS hn1 hn2 hcut h3
  have hcut2:=ahi (bsz ta) 32 (by rw[abt];exact hza) w1
  obtain⟨r0,r1,rz0,rz1⟩:=afx hr1
  obtain⟨m0,m1,mz0,mz1⟩:=afx hm1
  clear r0 r1 rz0 rz1 m0 m1 mz0 mz1
  go_wp2_with fail
  refine hcut2.mono ?_
  rintro e w2 ⟨a2,k2,c2,rfl,hown2,hb2⟩
  have hown2':SOwn w2 w1.heap.size (.slice a2 k2 c2) (aa3 32 ta):=hown2
  have hcz: ∀x∈aa3 32 ta,x.length≤65536:=fun x hx=>Nat.le_trans (abj 32 _ x hx) hza
  have hcpos:0<(aa3 32 ta).length:=List.length_pos_iff.2 (aig 32 ta)
  have HLONG:Hid (8<(aa3 32 ta).length→aij ta=none):=ay0
  have HBAD:Hid (∀i (hi:i<(aa3 32 ta).length),(∀n:Nat,adc (n:Int)=true→(aa3 32 ta)[i]≠aae n)→aij ta=none):=fun i hi h=>a2p hi h
  have HGOOD:Hid (∀us:List Nat,aa3 32 ta=us.map aae→us.length≤8→(∀u∈us,adc (u:Int)=true)→aij ta=some (us.map fun q:Nat=>(q:Int))):=fun us h1 h2 h3=>ay1 h1 h2 h3
  generalize aa3 32 ta=cs at hown2' hcz hcpos HLONG HBAD HGOOD
  obtain⟨g5,cp5,e5,hg5,hgW5,hcell5⟩:=hown2'.cells hcpos
  simp only[Value.slice.injEq] at e5
  obtain⟨rfl,hk5,rfl⟩:=e5
  have HK5:Hid (k2=cs.length):=hk5
  have hr5:=hr1.below hb2 hr1.lt
  have hm5:=hm1.below hb2 hm1.lt
  have hbw5:=hbw1.trans (hb2.mono hbw1.size)
  have hW5:w.heap.size+2≤w2.heap.size:=Nat.le_trans hW1 hb2.size
  have q1':=(hb2.cell (p:=⟨g,1,none⟩) hg).trans q1
  have hgl:g<w2.heap.size:=Nat.lt_of_lt_of_le hg hb2.size
  clear hown2 hown2' hcut2 hk5 hcpos hr1 hm1 hb2 q0 q1
  obtain⟨r0,r1,rz0,rz1⟩:=afx hr5
  obtain⟨m0,m1,mz0,mz1⟩:=afx hm5
  by_cases h8:8<k2
  ·have HF:Hid (aee s.data.toList=none):=ajy HCL.out (HLONG.out (by rw[←HK5.out];exact h8))
   go_wp2_with fail
   refine bodyPost_ret (abq (hr5.put2 _ _) rfl rfl) rfl ?_
   exact⟨aeu hbw5 (Nat.le_refl _) _ _,_,_,_,_,_,_,false,rfl,.inr ⟨rfl,HF.out⟩⟩
  ·have HCS:Hid (∀x:World,(∀k,k<w2.heap.size→k≠w.heap.size+1→x.heap[k]? =w2.heap[k]?)→(Blk x w.heap.size 160 #[.slice none 0 0,.slice none 0 0]∧x.cell? ⟨g,1,none⟩=some (.string (bsz tb))∧ ∀j (hj:j<cs.length),x.cell? ⟨g5,j,none⟩=some (.string (bsz cs[j])))):=fun x hx=>⟨(hx _ (by omega) (by omega)).trans hr5,by
    rw[←q1']
    simp only[World.cell?,hx g hgl (by omega)],fun j hj=>by
    rw[←hcell5 j hj]
    simp only[World.cell?,hx g5 hg5 (by omega)]⟩
   clear hcell5 hr5 q1' r0 r1 rz0 rz1 m0 m1 mz0 mz1
   go_wp2_with fail
   go_loopw [7,8,9] (fun i _ _ wr=> ∃(j:Nat) (us:List Nat) (av:Option Addr) (ac:Nat),j≤k2∧i=.int .i64 j∧us.length=j∧Blk wr (w.heap.size+1) 160 #[.slice av us.length ac,.slice none 0 0]∧IOwn wr w2.heap.size (.slice av us.length ac) (us.map fun q:Nat=>(q:Int))∧Hid (cs.take j=us.map aae∧ ∀u∈us,adc (u:Int)=true)∧(∀k,k<w2.heap.size→k≠w.heap.size+1→wr.heap[k]? =w2.heap[k]?)∧Below w.heap.size w wr∧w2.heap.size≤wr.heap.size) (fun i _ _ _=>k2-(intOf i).toNat)
   case atStart=>exact⟨0,[],none,0,by omega,rfl,rfl,hm5,IOwn.nil _ _,⟨by simp,by simp⟩,fun _ _ _=>rfl,hbw5,Nat.le_refl _⟩
   case round=>
    obtain⟨j,us,av,ac,hj,rfl,haj,hmr,hown,HP,hkp,hbel,hszr⟩:=hrel
    have HAJ:Hid (us.length=j):=haj
    clear haj
    obtain⟨hrr,hq1,hcell⟩:=HCS.out wr hkp
    obtain⟨r0,r1,rz0,rz1⟩:=afx hrr
    obtain⟨m0,m1,mz0,mz1⟩:=afx hmr
    by_cases hlt:j<k2
    ·have hltc:j<cs.length:=by rw[←HK5.out];exact hlt
     have hcj:=hcell j hltc
     have hzj:=hcz _ (List.getElem_mem hltc)
     have HBJ:Hid ((∀n:Nat,adc (n:Int)=true→cs[j]≠aae n)→aij ta=none):=HBAD.out j hltc
     have HTK:Hid (cs.take (j+1)=cs.take j++[cs[j]]):=by show _=_;rw[List.take_add_one,List.getElem?_eq_getElem hltc];rfl
     generalize cs[j]=tj at hcj hzj HBJ HTK
     have hpj:=ali (bsz tj) (by rw[abt];omega) wr
     clear hcell hq1
     go_wp2_with fail
     refine hpj.mono ?_
     rintro e w6 ⟨q,bq,rfl,hq,rfl⟩
     have hq':NumOg tj q bq:=hq
     clear hq hpj
     rcases hq' with ⟨rfl,n,rfl,hn6,hqn⟩ | ⟨rfl,hq'⟩
     ·have hip:=akd (n:Int) wr
      cases hpt:a0j (n:Int) with
      | true=>
       rw[hpt] at hip
       have HP2:Hid (cs.take (j+1)=(us++[n]).map aae∧ ∀u∈us++[n],adc (u:Int)=true):=by
        refine⟨?_,?_⟩
        ·rw[HTK.out,HP.out.1,hqn];simp
        ·intro u hu
         rcases List.mem_append.1 hu with hu | hu
         ·exact HP.out.2 u hu
         ·simp at hu;subst hu;exact hpt
       clear HP HTK HBJ hqn hpt
       have hown':IOwn (wr.alloc (.cells #[.int .i64 (n:Int)] 3)) w2.heap.size (.slice av us.length ac) (us.map fun q:Nat=>(q:Int)):=World.ownsRow.alloc hown _
       have HN2:Hid (∀i,i<([(n:Int)]:List Int).length→(wr.alloc (.cells #[.int .i64 (n:Int)] 3)).cell? ((⟨wr.heap.size,0,none⟩:Addr).add i)=some (.int .i64 (([(n:Int)]:List Int)[i]?.getD 0))):=fun i hi=>by
        have:i=0:=by simp at hi;omega
        subst this
        exact(Blk.new wr 3 #[.int .i64 (n:Int)]).cell 0
       have hsum:(us.map fun q:Nat=>(q:Int)).length+([(n:Int)]:List Int).length≤1099511627776:=by have:=HAJ.out;simp;omega
       have hsz2:w2.heap.size≤(wr.alloc (.cells #[.int .i64 (n:Int)] 3)).heap.size:=by simp;omega
       go_wp2_with fail
       refine hip.mono ?_
       rintro _ _ ⟨rfl,rfl⟩
       have hml:(us.map fun q:Nat=>(q:Int)).length=us.length:=List.length_map _
       go_wp2_with (first | (at_builtin;refine aao rfl _ _ rfl w2.heap.size _ (us.map fun q:Nat=>(q:Int)) rfl hown' [(n:Int)] ⟨wr.heap.size,0,none⟩ _ rfl HN2.out hsum hsz2 ?_;intro a7 c7 w7 hown7 hgr7 hnil7 hat7;have hb7:Below w2.heap.size wr w7:=((Below.refl w2.heap.size wr).alloc hszr _).grown hgr7 hsz2 (fun i hi=>(aan hown' hi).1);have hm7:=hmr.below hb7 (by omega);have y0:w7.cell? ⟨w.heap.size+1,0,none⟩=some (.slice av us.length ac):=hm7.cell 0;have yz0:=hm7.frozen 0))
       have hlen1:(us++[n]).length=us.length+1:=by simp
       have hm8:Blk (w7.setCell ⟨w.heap.size+1,0,none⟩ (.slice a7 (us.length+1) c7)) (w.heap.size+1) 160 #[.slice a7 (us++[n]).length c7,.slice none 0 0]:=by
        rw[hlen1]
        exact hm7.set 0 _
       have hown8:IOwn (w7.setCell ⟨w.heap.size+1,0,none⟩ (.slice a7 (us.length+1) c7)) w2.heap.size (.slice a7 (us++[n]).length c7) ((us++[n]).map fun q:Nat=>(q:Int)):=by
        refine aam ?_ (show w.heap.size+1<w2.heap.size by omega) _
        have h9:=hown7
        rw[List.map_append,hlen1]
        unfold IOwn at h9
        rw[List.length_append,hml] at h9
        rw[List.length_append,hml]
        simpa using h9
       have hsz8:w2.heap.size≤(w7.setCell ⟨w.heap.size+1,0,none⟩ (.slice a7 (us.length+1) c7)).heap.size:=by
        have:=Nat.le_trans hszr hb7.size
        simpa[World.setCell] using this
       exact⟨⟨j+1,us++[n],a7,c7,by omega,by go_num,by rw[hlen1,HAJ.out],hm8,hown8,HP2,fun k hk hne=>(Below.heap_setCell _ ⟨w.heap.size+1,0,none⟩ _ k hne).trans ((hb7.block k hk).trans (hkp k hk hne)),(hbel.trans (hb7.mono (by omega))).setCell (show w.heap.size≤w.heap.size+1 by omega) _,hsz8⟩,by simp only[intOf];omega⟩
      | false=>
       rw[hpt] at hip
       have HF:Hid (aee s.data.toList=none):=ajy HCL.out (HBJ.out fun m hm e=>by
        have:n=m:=aes (hqn.symm.trans e)
        subst this
        rw[show adc (n:Int)=a0j (n:Int) from rfl,hpt] at hm
        cases hm)
       clear HP HTK HBJ hqn hpt
       go_wp2_with fail
       refine hip.mono ?_
       rintro _ _ ⟨rfl,rfl⟩
       go_wp2_with fail
       refine bodyPost_ret (abq (hrr.put2 _ _) rfl rfl) rfl ?_
       exact⟨aeu hbel (Nat.le_refl _) _ _,_,_,_,_,_,_,false,rfl,.inr ⟨rfl,HF.out⟩⟩
     ·have HF:Hid (aee s.data.toList=none):=ajy HCL.out (HBJ.out fun m hm e=>by
       obtain⟨u,hu,hu2⟩:=ad7 hm
       have k6:(1114112:Nat)≤16^6:=by decide
       exact hq' m (by omega) e)
      clear HP HTK HBJ hq'
      go_wp2_with fail
      refine bodyPost_ret (abq (hrr.put2 _ _) rfl rfl) rfl ?_
      exact⟨aeu hbel (Nat.le_refl _) _ _,_,_,_,_,_,_,false,rfl,.inr ⟨rfl,HF.out⟩⟩
    ·obtain rfl:j=k2:=by omega
     have HROW:Hid (aij ta=some (us.map fun q:Nat=>(q:Int))):=HGOOD.out us (by rw[←HP.out.1,List.take_of_length_le (by rw[←HK5.out];exact Nat.le_refl _)]) (by rw[HAJ.out];omega) HP.out.2
     clear HP hcell HCS HBAD HGOOD HLONG
     have hkl:us.length≤8:=by have:=HAJ.out;omega
     have HPV:Aside (IOwn wr w2.heap.size (.slice av us.length ac) (us.map fun q:Nat=>(q:Int))):=hown
     generalize (us.map fun q:Nat=>(q:Int))=ps at HPV HROW
     clear hown
     go_wp2_with fail
     clear r0 r1 rz0 rz1 m0 m1 mz0 mz1
     obtain⟨wo,hwo⟩: ∃wo,wo=wr:=⟨_,rfl⟩
     subst hwo
     go_loopw [10,11,12] (fun rv _ _ wx=> ∃(acc:List El) (r:List UInt8) (ea:Option Addr) (ec:Nat),rv=.string (bsz r)∧Hid (tb=afu acc++r∧ ∀e∈acc,wtE e)∧r.length≤65536∧acc.length≤65536∧Blk wx (w.heap.size+1) 160 #[.slice av us.length ac,.slice ea acc.length ec]∧Aside (EOwn wx wo.heap.size (.slice ea acc.length ec) acc)∧(∀k,k<wo.heap.size→k≠w.heap.size+1→wx.heap[k]? =wo.heap[k]?)∧Below w.heap.size w wx∧wo.heap.size≤wx.heap.size) (fun rv _ _ _=>ak7 rv)
     case atStart=>exact⟨[],tb,none,0,rfl,⟨by simp[afu],by simp⟩,hzb,by simp,hmr,EOwn.nil _ _,fun _ _ _=>rfl,hbel,Nat.le_refl _⟩
     case round=>
      obtain⟨acc,r,ea,ec,rfl,HT,hrl,hal,hmx,HE,hkx,hbx,hsx⟩:=hrel
      have hrx:Blk wr w.heap.size 160 #[.slice none 0 0,.slice none 0 0]:=(hkx _ (by omega) (by omega)).trans hrr
      obtain⟨r0,r1,rz0,rz1⟩:=afx hrx
      obtain⟨m0,m1,mz0,mz1⟩:=afx hmx
      by_cases hemp:r=[]
      ·subst hemp
       have HEND:=a4j (b:=tb) (acc:=acc) (by have:=HT.out.1;simpa using this) HT.out.2
       have HPX:IOwn wr w2.heap.size (.slice av us.length ac) ps:=azl HPV.out (fun j hj=>by
        obtain⟨h1,cs',f,h2⟩:=aan HPV.out hj
        exact hkx j (Array.getElem?_eq_some_iff.1 h2).1 (by omega))
       have HF':Hid (¬(1≤acc.length∧acc.length≤16)→aee s.data.toList=none):=fun h=>an7 HCL.out (HEND.2 h)
       have HY':Hid (1≤acc.length∧acc.length≤16→aee s.data.toList=some (ps,acc)):=fun h=>a6q HCL.out HROW.out (HEND.1 h)
       clear HEND HT
       generalize acc.length=Ln at hmx m1 HE hal HF' HY'
       have hrp:=(show Blk wr.drew w.heap.size 160 #[.slice none 0 0,.slice none 0 0] from hrx).put2 (.slice av us.length ac) (.slice ea Ln ec)
       have hbp:=aeu hbx.drew (Nat.le_refl w.heap.size) (.slice av us.length ac) (.slice ea Ln ec)
       have HPF:Hid (IOwn (put2 wr.drew w.heap.size (.slice av us.length ac) (.slice ea Ln ec)) w.heap.size (.slice av us.length ac) ps):=aai (aam (aam (show(wr.drew).ownsRow _ _ _ _ _ _ from HPX) (p:=⟨w.heap.size,0,none⟩) (show w.heap.size<w2.heap.size by omega) _) (p:=⟨w.heap.size,1,none⟩) (show w.heap.size<w2.heap.size by omega) _) (by omega)
       have HEF:Hid (EOwn (put2 wr.drew w.heap.size (.slice av us.length ac) (.slice ea Ln ec)) w.heap.size (.slice ea Ln ec) acc):=aai (aam (aam (show(wr.drew).ownsRow _ _ _ _ _ _ from HE.out) (p:=⟨w.heap.size,0,none⟩) (show w.heap.size<wo.heap.size by omega) _) (p:=⟨w.heap.size,1,none⟩) (show w.heap.size<wo.heap.size by omega) _) (by omega)
       clear HPX
       by_cases h1:1≤Ln
       ·by_cases h16:Ln≤16
        ·have d1:decide ((1:Int)≤(Ln:Int))=true:=by simp;omega
         have d2:decide ((Ln:Int)≤16)=true:=by simp;omega
         have HY:Hid _:=HY'.out ⟨h1,h16⟩
         clear HY' HF' h1 h16
         go_wp2_with fail
         go_region
         go_wp2_with fail
         refine bodyPost_ret (abq hrp rfl rfl) rfl ?_
         exact⟨hbp,_,_,_,_,_,_,true,rfl,.inl ⟨rfl,(ps,acc),HY.out,HPF.out,HEF.out⟩⟩
        ·have d1:decide ((1:Int)≤(Ln:Int))=true:=by simp;omega
         have d2:decide ((Ln:Int)≤16)=false:=by simp;omega
         have HF:Hid _:=HF'.out (fun h=>h16 h.2)
         clear HY' HF' h1 h16
         go_wp2_with fail
         go_region
         go_wp2_with fail
         refine bodyPost_ret (abq hrp rfl rfl) rfl ?_
         exact⟨hbp,_,_,_,_,_,_,false,rfl,.inr ⟨rfl,HF.out⟩⟩
       ·have d1:decide ((1:Int)≤(Ln:Int))=false:=by simp;omega
        have HF:Hid _:=HF'.out (fun h=>h1 h.1)
        clear HY' HF' h1
        go_wp2_with fail
        go_region
        go_wp2_with fail
        refine bodyPost_ret (abq hrp rfl rfl) rfl ?_
        exact⟨hbp,_,_,_,_,_,_,false,rfl,.inr ⟨rfl,HF.out⟩⟩
      ·have hemp':(bsz r).toList.isEmpty=false:=by rw[ByteArray.toList_eq];simpa using hemp
       have hemp2:r.isEmpty=false:=by simpa using hemp
       have hrd:=asw (bsz r) (by rw[abt];exact hrl) wr
       go_wp2_with fail
       refine hrd.mono ?_
       rintro _ w6 ⟨hb6,⟨va,pr,se,te⟩,b,rfl,hcase⟩
       have hb7:=(Below.refl w6.heap.size w6).alloc (Nat.le_refl _) (.cells #[.bool va,.int .i64 pr,.int .i64 se,.int .i64 te] 131)
       have hb67:=hb6.trans (hb7.mono hb6.size)
       have hr7:=hrx.below hb67 hrx.lt
       have hm7:=hmx.below hb67 hmx.lt
       have hbw7:=hbx.trans (hb67.mono hbx.size)
       have hE7:=Blk.new w6 131 #[.bool va,.int .i64 pr,.int .i64 se,.int .i64 te]
       have HE7:Aside (EOwn (w6.alloc (.cells #[.bool va,.int .i64 pr,.int .i64 se,.int .i64 te] 131)) wo.heap.size (.slice ea acc.length ec) acc):=aad HE.out hb67
       have hk7: ∀k,k<wo.heap.size→k≠w.heap.size+1→(w6.alloc (.cells #[.bool va,.int .i64 pr,.int .i64 se,.int .i64 te] 131)).heap[k]? =wo.heap[k]?:=fun k hk hne=>(hb67.block k (Nat.lt_of_lt_of_le hk hsx)).trans (hkx k hk hne)
       have hs7:wo.heap.size≤(w6.alloc (.cells #[.bool va,.int .i64 pr,.int .i64 se,.int .i64 te] 131)).heap.size:=Nat.le_trans hsx hb67.size
       have hcase':(b=true∧17≤r.length∧elR (r.take 17)=some ⟨va,pr,se,te⟩)∨(b=false∧ ∀e',17≤r.length→elR (r.take 17)≠some e'):=by simpa using hcase
       clear hcase hrd r0 r1 rz0 rz1 m0 m1 mz0 mz1 HE hkx hb6 hb67
       rcases hcase' with ⟨rfl,hl17,hel⟩ | ⟨rfl,hno⟩
       ·obtain⟨hT2,hwt⟩:=a1c HT.out.1 hl17 hel
        have HT2:Hid (tb=afu (acc++[⟨va,pr,se,te⟩])++r.drop 17∧ ∀e∈acc++[⟨va,pr,se,te⟩],wtE e):=⟨hT2,fun e he=>by
         rcases List.mem_append.1 he with he | he
         ·exact HT.out.2 e he
         ·simp at he;subst he;exact hwt⟩
        clear hT2 hwt HT hel
        have HDL:Hid ((r.drop 17).length<r.length∧(r.drop 17).length≤65536):=⟨by rw[List.length_drop];omega,by rw[List.length_drop];omega⟩
        have hx1:Hid ((bsz r).extract 17 r.length=bsz (r.drop 17)):=by
         show _=_
         have e:(bsz r).data.toList=r:=by simp
         rw[adw,e,List.take_of_length_le (by rw[List.length_drop];exact Nat.le_refl _)]
        have hal2:Hid (acc.length+1≤65536):=by
         show _≤_
         have h1:=aeq _ HT2.out.2
         have h2:=congrArg List.length HT2.out.1
         rw[List.length_append,h1,List.length_append] at h2
         simp only[List.length_cons,List.length_nil] at h2
         omega
        go_upto_region 20 with fail
        generalize w6.alloc (.cells #[.bool va,.int .i64 pr,.int .i64 se,.int .i64 te] 131)=w7 at*
        have hb8:=(Below.refl w7.heap.size w7).alloc (Nat.le_refl _) (.cells #[.bool va,.int .i64 pr,.int .i64 se,.int .i64 te] 131)
        have hm8:=hm7.below hb8 hm7.lt
        have hE8:=Blk.new w7 131 #[.bool va,.int .i64 pr,.int .i64 se,.int .i64 te]
        have HE8:Aside (EOwn (w7.alloc (.cells #[.bool va,.int .i64 pr,.int .i64 se,.int .i64 te] 131)) wo.heap.size (.slice ea acc.length ec) acc):=aad HE7.out hb8
        have HI8:Aside (Els (w7.alloc (.cells #[.bool va,.int .i64 pr,.int .i64 se,.int .i64 te] 131)).heap.size (w7.alloc (.cells #[.bool va,.int .i64 pr,.int .i64 se,.int .i64 te] 131)) (.slice (some ⟨w7.heap.size,0,none⟩) 1 1) [⟨va,pr,se,te⟩]):=.inr ⟨w7.heap.size,0,1,rfl,hE8.lt,fun j hj=>by
         obtain rfl:j=0:=by simpa using hj
         exact⟨hE8.cell 0,hE8.cell 1,hE8.cell 2,hE8.cell 3⟩⟩
        have hsum:acc.length+([⟨va,pr,se,te⟩]:List El).length≤4000000000000:=by simp;omega
        have hs8:wo.heap.size≤(w7.alloc (.cells #[.bool va,.int .i64 pr,.int .i64 se,.int .i64 te] 131)).heap.size:=Nat.le_trans hs7 hb8.size
        obtain⟨m0,m1,mz0,mz1⟩:=afx hm7
        have t0:w7.cell? ⟨w6.heap.size,0,none⟩=some (.bool va):=hE7.cell 0
        have t1:w7.cell? ⟨w6.heap.size,1,none⟩=some (.int .i64 pr):=hE7.cell 1
        have t2:w7.cell? ⟨w6.heap.size,2,none⟩=some (.int .i64 se):=hE7.cell 2
        have t3:w7.cell? ⟨w6.heap.size,3,none⟩=some (.int .i64 te):=hE7.cell 3
        have hhw:w.heap.size+1<wo.heap.size:=by omega
        go_wp2_with (first | (at_builtin;refine adr rfl _ _ rfl wo.heap.size _ acc rfl HE8.out [⟨va,pr,se,te⟩] _ _ rfl HI8.out hsum hs8 ?_;intro a9 c9 w9 hown9 hb9 hg9;have hm9:=hm8.below hb9 hhw;have y1:w9.cell? ⟨w.heap.size+1,1,none⟩=some (.slice ea acc.length ec):=hm9.cell 1;have yz1:=hm9.frozen 1))
        have hlen1:(acc++[⟨va,pr,se,te⟩]:List El).length=acc.length+1:=by simp
        have hm10:Blk (w9.setCell ⟨w.heap.size+1,1,none⟩ (.slice a9 (acc.length+1) c9)) (w.heap.size+1) 160 #[.slice av us.length ac,.slice a9 (acc++[⟨va,pr,se,te⟩]:List El).length c9]:=by
         rw[hlen1]
         exact hm9.set 1 _
        have HE10:Aside (EOwn (w9.setCell ⟨w.heap.size+1,1,none⟩ (.slice a9 (acc.length+1) c9)) wo.heap.size (.slice a9 (acc++[⟨va,pr,se,te⟩]:List El).length c9) (acc++[⟨va,pr,se,te⟩])):=by
         refine aam ?_ hhw _
         have h9:=hown9
         unfold EOwn at h9
         rw[hlen1] at h9⊢
         exact h9
        have hs10:wo.heap.size≤(w9.setCell ⟨w.heap.size+1,1,none⟩ (.slice a9 (acc.length+1) c9)).heap.size:=by
         have:=Nat.le_trans hs8 hb9.size
         simpa[World.setCell] using this
        have hb79:=hb8.mono (show wo.heap.size≤w7.heap.size from hs7)
        have hbf:Below w.heap.size w (w9.setCell ⟨w.heap.size+1,1,none⟩ (.slice a9 (acc.length+1) c9)):=((hbw7.trans (hb79.mono (by omega))).trans (hb9.mono (by omega))).setCell (show w.heap.size≤w.heap.size+1 by omega) _
        have hkf: ∀k,k<wo.heap.size→k≠w.heap.size+1→(w9.setCell ⟨w.heap.size+1,1,none⟩ (.slice a9 (acc.length+1) c9)).heap[k]? =wo.heap[k]?:=fun k hk hne=>(Below.heap_setCell _ ⟨w.heap.size+1,1,none⟩ _ k hne).trans (((hb9.block k hk).trans (hb79.block k hk)).trans (hk7 k hk hne))
        rw[hx1.out]
        exact⟨⟨acc++[⟨va,pr,se,te⟩],r.drop 17,a9,c9,rfl,HT2,HDL.out.2,by rw[hlen1];exact hal2.out,hm10,HE10,hkf,hbf,hs10⟩,by
         show(bsz (r.drop 17)).size<(bsz r).size
         rw[abt,abt]
         exact HDL.out.1⟩
       ·have HF:Hid (aee s.data.toList=none):=an7 HCL.out (a4k HT.out.1 HT.out.2 hemp hno)
        clear HT hno
        obtain⟨r0,r1,rz0,rz1⟩:=afx hr7
        obtain⟨m0,m1,mz0,mz1⟩:=afx hm7
        go_wp2_with fail
        refine bodyPost_ret (abq (hr7.put2 _ _) rfl rfl) rfl ?_
        exact⟨aeu hbw7 (Nat.le_refl _) _ _,_,_,_,_,_,_,false,rfl,.inr ⟨rfl,HF.out⟩⟩
 ·have HF:Hid (aee s.data.toList=none):=a4h (by rw[←hk1];exact h3)
  have h3':((k1:Int) !=2)=true:=by simp;omega
  obtain⟨r0,r1,rz0,rz1⟩:=afx hr1
  obtain⟨m0,m1,mz0,mz1⟩:=afx hm1
  clear hk1 HSS
  go_wp2_with fail
  refine bodyPost_ret (abq (hr1.put2 _ _) rfl rfl) rfl ?_
  exact⟨aeu hbw1 (Nat.le_refl _) _ _,_,_,_,_,_,_,false,rfl,.inr ⟨rfl,HF.out⟩⟩
end Go.Proofs.YtfhpgmlfgjfknaaGreatDoor
