/- Contracts and lemmas (nothing is claimed here). -/
import Derived.Test.YtpfkoldfbecdlaaGreatDoorJ35
import Derived.Test.YtpfkoldfbecdlaaGreatDoorJ34
namespace Go.Proofs.YtpfkoldfbecdlaaGreatDoor
open Go.RowKit Go.Vf Go.Maps
def a05 (l:List UInt8)(w:World)(e:Ending)(w':World):Prop:=Below w.heap.size w w'∧ ∃(pa:Option Addr) (pn pc:Nat) (ea:Option Addr) (en ec:Nat) (ok:Bool),e=.returned (.tuple #[.agg #[.slice pa pn pc,.slice ea en ec],.bool ok])∧((ok=true∧ ∃x,aem l=some x∧IOwn w' w.heap.size (.slice pa pn pc) x.1∧EOwn w' w.heap.size (.slice ea en ec) x.2)∨(ok=false∧aem l=none))
theorem abt {tmps:Array Value}{w:World}{h:Nat}{x y b:Value}(hb:Blk w h 128 #[x,y])(t2:tmps[2]?.getD undef=.pointer (some ⟨h,0,none⟩))(t3:tmps[3]?.getD undef=b):
  (results Tryz.f53 tmps).run Tryz.prog w=.ok (.tuple #[.agg #[x,y],b]) w:=by
 have c0:w.cell? ⟨h,0,none⟩=some x:=hb.cell 0
 have c1:w.cell? ⟨h,1,none⟩=some y:=hb.cell 1
 simp[results,Tryz.results53,go_sem,t2,t3,c0,c1]
abbrev put2 (w:World)(h:Nat)(a b:Value):World:=(w.setCell ⟨h,0,none⟩ a).setCell ⟨h,1,none⟩ b
theorem Blk.put2 {w:World}{h:Nat}{t:TypeId}{a b:Value}(hb:Blk w h t #[a,b])(a' b':Value):Blk (put2 w h a' b') h t #[a',b']:=(hb.set 0 a').set 1 b'
theorem aet {B:Nat}{a w:World}{h:Nat}(hb:Below B a w)(hB:B≤h)(a' b':Value):Below B a (put2 w h a' b'):=(hb.setCell (p:=⟨h,0,none⟩) hB _).setCell (p:=⟨h,1,none⟩) hB _
structure TwoC (w:World)(h:Nat)(a b:Value):Prop where
 c0:w.cell? ⟨h,0,none⟩=some a
 c1:w.cell? ⟨h,1,none⟩=some b
 f0:w.frozen? ⟨h,0,none⟩=false
 f1:w.frozen? ⟨h,1,none⟩=false
theorem afv {w:World}{h:Nat}{t:TypeId}{a b:Value}(hb:Blk w h t #[a,b]):TwoC w h a b:=⟨hb.cell 0,hb.cell 1,hb.frozen 0,hb.frozen 1⟩
theorem a2a {α:Type}{l:List α}(h:l.length=2): ∃a b,l=[a,b]:=by
 match l,h with
 | [a,b],_=>exact⟨a,b,rfl⟩
theorem ayq {w w':World}{base:Nat}{e:TypeId}{size:Nat}{v:Value}{k:Nat}{xs:List Value}(h:w.ownsRow base e size v k xs)(hk: ∀j,v.ownBlock=some j→w'.heap[j]? =w.heap[j]?):w'.ownsRow base e size v k xs:=by
 refine⟨h.1,?_⟩
 rcases h.2 with hn | ⟨g,cap,cur,rfl,hb,hgg,rest⟩
 ·exact .inl hn
 ·exact .inr ⟨g,cap,cur,rfl,hb,(hk g (by simp[Value.ownBlock])).trans hgg,rest⟩
set_option maxHeartbeats 8000000 in
set_option maxRecDepth 20000 in
theorem ap6 (s:ByteArray)(hs:s.size≤65536)(w:World):Calls Tryz.prog 53 #[.string s] w fun e w'=>a05 s.data.toList w e w':=by
 have hb0:=((Below.refl w.heap.size w).alloc (Nat.le_refl _) (.cells #[.slice none 0 0,.slice none 0 0] 128)).alloc (by simp) (.cells #[.slice none 0 0,.slice none 0 0] 128)
 have hn1:Blk ((w.alloc (.cells #[.slice none 0 0,.slice none 0 0] 128)).alloc (.cells #[.slice none 0 0,.slice none 0 0] 128)) w.heap.size 128 #[.slice none 0 0,.slice none 0 0]:=(Below.heap_alloc _ _ _ (by simp)).trans (Blk.new w 128 _)
 have hn2:Blk ((w.alloc (.cells #[.slice none 0 0,.slice none 0 0] 128)).alloc (.cells #[.slice none 0 0,.slice none 0 0] 128)) (w.heap.size+1) 128 #[.slice none 0 0,.slice none 0 0]:=by
  have:=Blk.new (w.alloc (.cells #[.slice none 0 0,.slice none 0 0] 128)) 128 #[.slice none 0 0,.slice none 0 0]
  simpa using this
 have hsz:((w.alloc (.cells #[.slice none 0 0,.slice none 0 0] 128)).alloc (.cells #[.slice none 0 0,.slice none 0 0] 128)).heap.size=w.heap.size+2:=by simp
 go_enter Tryz.func53,Tryz.ntmps53
 go_upto_region 2 with fail
 generalize (w.alloc (.cells #[.slice none 0 0,.slice none 0 0] 128)).alloc (.cells #[.slice none 0 0,.slice none 0 0] 128)=W at hb0 hn1 hn2 hsz⊢
 have HSZ:Hid (W.heap.size=w.heap.size+2):=hsz
 clear hsz
 have hcut:=ahc s 59 hs W
 go_wp2_with fail
 refine hcut.mono ?_
 rintro e w1 ⟨a1,k1,c1,rfl,hown1,hb1⟩
 have hr1:=hn1.below hb1 hn1.lt
 have hm1:=hn2.below hb1 hn2.lt
 have hbw1:Below w.heap.size w w1:=hb0.trans (hb1.mono hb0.size)
 have hW1:w.heap.size+2≤w1.heap.size:=by have:=hb1.size;rw[HSZ.out] at this;exact this
 have hk1:k1=(aa5 59 s.data.toList).length:=by obtain⟨_,_,e⟩:=aay hown1;cases e;rfl
 have HSS:Hid (∀x∈aa5 59 s.data.toList,x.length≤65536):=fun x hx=>Nat.le_trans (abj 59 _ x hx) (by rw[←Lib.size_eq];exact hs)
 by_cases h3:k1=2
 ·rw[h3] at hk1
  obtain⟨ta,tb,hcl⟩: ∃ta tb,aa5 59 s.data.toList=[ta,tb]:=a2a hk1.symm
  have HCL:Hid (aa5 59 s.data.toList=[ta,tb]):=hcl
  have hza:=HSS.out ta (by rw[hcl];simp)
  have hzb:=HSS.out tb (by rw[hcl];simp)
  rw[hcl] at hown1
  obtain⟨g,cp,e1,hg,hgW,hcells⟩:=hown1.cells (by simp)
  rw[HSZ.out] at hgW
  cases e1
  have q0:=hcells 0 (by simp)
  have q1:=hcells 1 (by simp)
  simp only[List.getElem_cons_zero,List.getElem_cons_succ] at q0 q1
  clear hcells hk1 hcl hown1 HSS hn1 hn2 hcut h3
  have hcut2:=ahc (bsz ta) 32 (by rw[aa8];exact hza) w1
  obtain⟨r0,r1,rz0,rz1⟩:=afv hr1
  obtain⟨m0,m1,mz0,mz1⟩:=afv hm1
  clear r0 r1 rz0 rz1 m0 m1 mz0 mz1
  go_wp2_with fail
  refine hcut2.mono ?_
  rintro e w2 ⟨a2,k2,c2,rfl,hown2,hb2⟩
  have hown2':SOwn w2 w1.heap.size (.slice a2 k2 c2) (aa5 32 ta):=hown2
  have hcz: ∀x∈aa5 32 ta,x.length≤65536:=fun x hx=>Nat.le_trans (abj 32 _ x hx) hza
  have hcpos:0<(aa5 32 ta).length:=List.length_pos_iff.2 (aif 32 ta)
  have HLONG:Hid (8<(aa5 32 ta).length→rowR ta=none):=ax5
  have HBAD:Hid (∀i (hi:i<(aa5 32 ta).length),(∀n:Nat,abm (n:Int)=true→(aa5 32 ta)[i]≠aad n)→rowR ta=none):=fun i hi h=>a1h hi h
  have HGOOD:Hid (∀us:List Nat,aa5 32 ta=us.map aad→us.length≤8→(∀u∈us,abm (u:Int)=true)→rowR ta=some (us.map fun q:Nat=>(q:Int))):=fun us h1 h2 h3=>ax6 h1 h2 h3
  generalize aa5 32 ta=cs at hown2' hcz hcpos HLONG HBAD HGOOD
  obtain⟨g5,cp5,e5,hg5,hgW5,hcell5⟩:=hown2'.cells hcpos
  simp only[Value.slice.injEq] at e5
  obtain⟨rfl,hk5,rfl⟩:=e5
  have HK5:Hid (k2=cs.length):=hk5
  have hr5:=hr1.below hb2 hr1.lt
  have hm5:=hm1.below hb2 hm1.lt
  have hbw5:=hbw1.trans (hb2.mono hbw1.size)
  have hW5:w.heap.size+2≤w2.heap.size:=Nat.le_trans hW1 hb2.size
  have q1':=(hb2.cell (p:=⟨g,1,none⟩) hg).trans q1
  have hgl:g<w2.heap.size:=Nat.lt_of_lt_of_le hg hb2.size
  clear hown2 hown2' hcut2 hk5 hcpos hr1 hm1 hb2 q0 q1
  obtain⟨r0,r1,rz0,rz1⟩:=afv hr5
  obtain⟨m0,m1,mz0,mz1⟩:=afv hm5
  by_cases h8:8<k2
  ·have HF:Hid (aem s.data.toList=none):=ajp HCL.out (HLONG.out (by rw[←HK5.out];exact h8))
   go_wp2_with fail
   refine bodyPost_ret (abt (hr5.put2 _ _) rfl rfl) rfl ?_
   exact⟨aet hbw5 (Nat.le_refl _) _ _,_,_,_,_,_,_,false,rfl,.inr ⟨rfl,HF.out⟩⟩
  ·have HCS:Hid (∀x:World,(∀k,k<w2.heap.size→k≠w.heap.size+1→x.heap[k]? =w2.heap[k]?)→(Blk x w.heap.size 128 #[.slice none 0 0,.slice none 0 0]∧x.cell? ⟨g,1,none⟩=some (.string (bsz tb))∧ ∀j (hj:j<cs.length),x.cell? ⟨g5,j,none⟩=some (.string (bsz cs[j])))):=fun x hx=>⟨(hx _ (by omega) (by omega)).trans hr5,by
    rw[←q1']
    simp only[World.cell?,hx g hgl (by omega)],fun j hj=>by
    rw[←hcell5 j hj]
    simp only[World.cell?,hx g5 hg5 (by omega)]⟩
   clear hcell5 hr5 q1' r0 r1 rz0 rz1 m0 m1 mz0 mz1
   go_wp2_with fail
   go_loopw [7,8,9] (fun i _ _ wr=> ∃(j:Nat) (us:List Nat) (av:Option Addr) (ac:Nat),j≤k2∧i=.int .i64 j∧us.length=j∧Blk wr (w.heap.size+1) 128 #[.slice av us.length ac,.slice none 0 0]∧IOwn wr w2.heap.size (.slice av us.length ac) (us.map fun q:Nat=>(q:Int))∧Hid (cs.take j=us.map aad∧ ∀u∈us,abm (u:Int)=true)∧(∀k,k<w2.heap.size→k≠w.heap.size+1→wr.heap[k]? =w2.heap[k]?)∧Below w.heap.size w wr∧w2.heap.size≤wr.heap.size) (fun i _ _ _=>k2-(intOf i).toNat)
   case atStart=>exact⟨0,[],none,0,by omega,rfl,rfl,hm5,IOwn.nil _ _,⟨by simp,by simp⟩,fun _ _ _=>rfl,hbw5,Nat.le_refl _⟩
   case round=>
    obtain⟨j,us,av,ac,hj,rfl,haj,hmr,hown,HP,hkp,hbel,hszr⟩:=hrel
    have HAJ:Hid (us.length=j):=haj
    clear haj
    obtain⟨hrr,hq1,hcell⟩:=HCS.out wr hkp
    obtain⟨r0,r1,rz0,rz1⟩:=afv hrr
    obtain⟨m0,m1,mz0,mz1⟩:=afv hmr
    by_cases hlt:j<k2
    ·have hltc:j<cs.length:=by rw[←HK5.out];exact hlt
     have hcj:=hcell j hltc
     have hzj:=hcz _ (List.getElem_mem hltc)
     have HBJ:Hid ((∀n:Nat,abm (n:Int)=true→cs[j]≠aad n)→rowR ta=none):=HBAD.out j hltc
     have HTK:Hid (cs.take (j+1)=cs.take j++[cs[j]]):=by show _=_;rw[List.take_add_one,List.getElem?_eq_getElem hltc];rfl
     generalize cs[j]=tj at hcj hzj HBJ HTK
     have hpj:=ala (bsz tj) (by rw[aa8];omega) wr
     clear hcell hq1
     go_wp2_with fail
     refine hpj.mono ?_
     rintro e w6 ⟨q,bq,rfl,hq,rfl⟩
     have hq':NumOg tj q bq:=hq
     clear hq hpj
     rcases hq' with ⟨rfl,n,rfl,hn6,hqn⟩ | ⟨rfl,hq'⟩
     ·have hip:=afn (n:Int) wr
      cases hpt:awo (n:Int) with
      | true=>
       rw[hpt] at hip
       have HP2:Hid (cs.take (j+1)=(us++[n]).map aad∧ ∀u∈us++[n],abm (u:Int)=true):=by
        refine⟨?_,?_⟩
        ·rw[HTK.out,HP.out.1,hqn];simp
        ·intro u hu
         rcases List.mem_append.1 hu with hu | hu
         ·exact HP.out.2 u hu
         ·simp at hu;subst hu;exact hpt
       clear HP HTK HBJ hqn hpt
       have hown':IOwn (wr.alloc (.cells #[.int .i64 (n:Int)] 3)) w2.heap.size (.slice av us.length ac) (us.map fun q:Nat=>(q:Int)):=World.ownsRow.alloc hown _
       have HN2:Hid (∀i,i<([(n:Int)]:List Int).length→(wr.alloc (.cells #[.int .i64 (n:Int)] 3)).cell? ((⟨wr.heap.size,0,none⟩:Addr).add i)=some (.int .i64 (([(n:Int)]:List Int)[i]?.getD 0))):=fun i hi=>by
        have:i=0:=by simp at hi;omega
        subst this
        exact(Blk.new wr 3 #[.int .i64 (n:Int)]).cell 0
       have hsum:(us.map fun q:Nat=>(q:Int)).length+([(n:Int)]:List Int).length≤1099511627776:=by have:=HAJ.out;simp;omega
       have hsz2:w2.heap.size≤(wr.alloc (.cells #[.int .i64 (n:Int)] 3)).heap.size:=by simp;omega
       go_wp2_with fail
       refine hip.mono ?_
       rintro _ _ ⟨rfl,rfl⟩
       have hml:(us.map fun q:Nat=>(q:Int)).length=us.length:=List.length_map _
       go_wp2_with (first | (at_builtin;refine aam rfl _ _ rfl w2.heap.size _ (us.map fun q:Nat=>(q:Int)) rfl hown' [(n:Int)] ⟨wr.heap.size,0,none⟩ _ rfl HN2.out hsum hsz2 ?_;intro a7 c7 w7 hown7 hgr7 hnil7 hat7;have hb7:Below w2.heap.size wr w7:=((Below.refl w2.heap.size wr).alloc hszr _).grown hgr7 hsz2 (fun i hi=>(aal hown' hi).1);have hm7:=hmr.below hb7 (by omega);have y0:w7.cell? ⟨w.heap.size+1,0,none⟩=some (.slice av us.length ac):=hm7.cell 0;have yz0:=hm7.frozen 0))
       have hlen1:(us++[n]).length=us.length+1:=by simp
       have hm8:Blk (w7.setCell ⟨w.heap.size+1,0,none⟩ (.slice a7 (us.length+1) c7)) (w.heap.size+1) 128 #[.slice a7 (us++[n]).length c7,.slice none 0 0]:=by
        rw[hlen1]
        exact hm7.set 0 _
       have hown8:IOwn (w7.setCell ⟨w.heap.size+1,0,none⟩ (.slice a7 (us.length+1) c7)) w2.heap.size (.slice a7 (us++[n]).length c7) ((us++[n]).map fun q:Nat=>(q:Int)):=by
        refine aaj ?_ (show w.heap.size+1<w2.heap.size by omega) _
        have h9:=hown7
        rw[List.map_append,hlen1]
        unfold IOwn at h9
        rw[List.length_append,hml] at h9
        rw[List.length_append,hml]
        simpa using h9
       have hsz8:w2.heap.size≤(w7.setCell ⟨w.heap.size+1,0,none⟩ (.slice a7 (us.length+1) c7)).heap.size:=by
        have:=Nat.le_trans hszr hb7.size
        simpa[World.setCell] using this
       exact⟨⟨j+1,us++[n],a7,c7,by omega,by go_num,by rw[hlen1,HAJ.out],hm8,hown8,HP2,fun k hk hne=>(Below.heap_setCell _ ⟨w.heap.size+1,0,none⟩ _ k hne).trans ((hb7.block k hk).trans (hkp k hk hne)),(hbel.trans (hb7.mono (by omega))).setCell (show w.heap.size≤w.heap.size+1 by omega) _,hsz8⟩,by simp only[intOf];omega⟩
      | false=>
       rw[hpt] at hip
       have HF:Hid (aem s.data.toList=none):=ajp HCL.out (HBJ.out fun m hm e=>by
        have:n=m:=aep (hqn.symm.trans e)
        subst this
        rw[show abm (n:Int)=awo (n:Int) from rfl,hpt] at hm
        cases hm)
       clear HP HTK HBJ hqn hpt
       go_wp2_with fail
       refine hip.mono ?_
       rintro _ _ ⟨rfl,rfl⟩
       go_wp2_with fail
       refine bodyPost_ret (abt (hrr.put2 _ _) rfl rfl) rfl ?_
       exact⟨aet hbel (Nat.le_refl _) _ _,_,_,_,_,_,_,false,rfl,.inr ⟨rfl,HF.out⟩⟩
     ·have HF:Hid (aem s.data.toList=none):=ajp HCL.out (HBJ.out fun m hm e=>by
       obtain⟨u,hu,hu2⟩:=ad9 hm
       have k6:(1114112:Nat)≤16^6:=by decide
       exact hq' m (by omega) e)
      clear HP HTK HBJ hq'
      go_wp2_with fail
      refine bodyPost_ret (abt (hrr.put2 _ _) rfl rfl) rfl ?_
      exact⟨aet hbel (Nat.le_refl _) _ _,_,_,_,_,_,_,false,rfl,.inr ⟨rfl,HF.out⟩⟩
    ·obtain rfl:j=k2:=by omega
     have HROW:Hid (rowR ta=some (us.map fun q:Nat=>(q:Int))):=HGOOD.out us (by rw[←HP.out.1,List.take_of_length_le (by rw[←HK5.out];exact Nat.le_refl _)]) (by rw[HAJ.out];omega) HP.out.2
     clear HP hcell HCS HBAD HGOOD HLONG
     have hkl:us.length≤8:=by have:=HAJ.out;omega
     have HPV:Aside (IOwn wr w2.heap.size (.slice av us.length ac) (us.map fun q:Nat=>(q:Int))):=hown
     generalize (us.map fun q:Nat=>(q:Int))=ps at HPV HROW
     clear hown
     go_wp2_with fail
     clear r0 r1 rz0 rz1 m0 m1 mz0 mz1
     obtain⟨wo,hwo⟩: ∃wo,wo=wr:=⟨_,rfl⟩
     subst hwo
     go_loopw [10,11,12] (fun rv _ _ wx=> ∃(acc:List El) (r:List UInt8) (ea:Option Addr) (ec:Nat),rv=.string (bsz r)∧Hid (tb=afd acc++r∧ ∀e∈acc,wtE e)∧r.length≤65536∧acc.length≤65536∧Blk wx (w.heap.size+1) 128 #[.slice av us.length ac,.slice ea acc.length ec]∧Aside (EOwn wx wo.heap.size (.slice ea acc.length ec) acc)∧(∀k,k<wo.heap.size→k≠w.heap.size+1→wx.heap[k]? =wo.heap[k]?)∧Below w.heap.size w wx∧wo.heap.size≤wx.heap.size) (fun rv _ _ _=>akx rv)
     case atStart=>exact⟨[],tb,none,0,rfl,⟨by simp[afd],by simp⟩,hzb,by simp,hmr,EOwn.nil _ _,fun _ _ _=>rfl,hbel,Nat.le_refl _⟩
     case round=>
      obtain⟨acc,r,ea,ec,rfl,HT,hrl,hal,hmx,HE,hkx,hbx,hsx⟩:=hrel
      have hrx:Blk wr w.heap.size 128 #[.slice none 0 0,.slice none 0 0]:=(hkx _ (by omega) (by omega)).trans hrr
      obtain⟨r0,r1,rz0,rz1⟩:=afv hrx
      obtain⟨m0,m1,mz0,mz1⟩:=afv hmx
      by_cases hemp:r=[]
      ·subst hemp
       have HEND:=a2v (b:=tb) (acc:=acc) (by have:=HT.out.1;simpa using this) HT.out.2
       have HPX:IOwn wr w2.heap.size (.slice av us.length ac) ps:=ayq HPV.out (fun j hj=>by
        obtain⟨h1,cs',f,h2⟩:=aal HPV.out hj
        exact hkx j (Array.getElem?_eq_some_iff.1 h2).1 (by omega))
       have HF':Hid (¬(1≤acc.length∧acc.length≤16)→aem s.data.toList=none):=fun h=>anp HCL.out (HEND.2 h)
       have HY':Hid (1≤acc.length∧acc.length≤16→aem s.data.toList=some (ps,acc)):=fun h=>a48 HCL.out HROW.out (HEND.1 h)
       clear HEND HT
       generalize acc.length=Ln at hmx m1 HE hal HF' HY'
       have hrp:=(show Blk wr.drew w.heap.size 128 #[.slice none 0 0,.slice none 0 0] from hrx).put2 (.slice av us.length ac) (.slice ea Ln ec)
       have hbp:=aet hbx.drew (Nat.le_refl w.heap.size) (.slice av us.length ac) (.slice ea Ln ec)
       have HPF:Hid (IOwn (put2 wr.drew w.heap.size (.slice av us.length ac) (.slice ea Ln ec)) w.heap.size (.slice av us.length ac) ps):=aah (aaj (aaj (show(wr.drew).ownsRow _ _ _ _ _ _ from HPX) (p:=⟨w.heap.size,0,none⟩) (show w.heap.size<w2.heap.size by omega) _) (p:=⟨w.heap.size,1,none⟩) (show w.heap.size<w2.heap.size by omega) _) (by omega)
       have HEF:Hid (EOwn (put2 wr.drew w.heap.size (.slice av us.length ac) (.slice ea Ln ec)) w.heap.size (.slice ea Ln ec) acc):=aah (aaj (aaj (show(wr.drew).ownsRow _ _ _ _ _ _ from HE.out) (p:=⟨w.heap.size,0,none⟩) (show w.heap.size<wo.heap.size by omega) _) (p:=⟨w.heap.size,1,none⟩) (show w.heap.size<wo.heap.size by omega) _) (by omega)
       clear HPX
       by_cases h1:1≤Ln
       ·by_cases h16:Ln≤16
        ·have d1:decide ((1:Int)≤(Ln:Int))=true:=by simp;omega
         have d2:decide ((Ln:Int)≤16)=true:=by simp;omega
         have HY:Hid _:=HY'.out ⟨h1,h16⟩
         clear HY' HF' h1 h16
         go_wp2_with fail
         go_region
         go_wp2_with fail
         refine bodyPost_ret (abt hrp rfl rfl) rfl ?_
         exact⟨hbp,_,_,_,_,_,_,true,rfl,.inl ⟨rfl,(ps,acc),HY.out,HPF.out,HEF.out⟩⟩
        ·have d1:decide ((1:Int)≤(Ln:Int))=true:=by simp;omega
         have d2:decide ((Ln:Int)≤16)=false:=by simp;omega
         have HF:Hid _:=HF'.out (fun h=>h16 h.2)
         clear HY' HF' h1 h16
         go_wp2_with fail
         go_region
         go_wp2_with fail
         refine bodyPost_ret (abt hrp rfl rfl) rfl ?_
         exact⟨hbp,_,_,_,_,_,_,false,rfl,.inr ⟨rfl,HF.out⟩⟩
       ·have d1:decide ((1:Int)≤(Ln:Int))=false:=by simp;omega
        have HF:Hid _:=HF'.out (fun h=>h1 h.1)
        clear HY' HF' h1
        go_wp2_with fail
        go_region
        go_wp2_with fail
        refine bodyPost_ret (abt hrp rfl rfl) rfl ?_
        exact⟨hbp,_,_,_,_,_,_,false,rfl,.inr ⟨rfl,HF.out⟩⟩
      ·have hemp':(bsz r).toList.isEmpty=false:=by rw[ByteArray.toList_eq];simpa using hemp
       have hemp2:r.isEmpty=false:=by simpa using hemp
       have hrd:=asd (bsz r) (by rw[aa8];exact hrl) wr
       go_wp2_with fail
       refine hrd.mono ?_
       rintro _ w6 ⟨hb6,⟨va,pr,se,te⟩,b,rfl,hcase⟩
       have hb7:=(Below.refl w6.heap.size w6).alloc (Nat.le_refl _) (.cells #[.bool va,.int .i64 pr,.int .i64 se,.int .i64 te] 133)
       have hb67:=hb6.trans (hb7.mono hb6.size)
       have hr7:=hrx.below hb67 hrx.lt
       have hm7:=hmx.below hb67 hmx.lt
       have hbw7:=hbx.trans (hb67.mono hbx.size)
       have hE7:=Blk.new w6 133 #[.bool va,.int .i64 pr,.int .i64 se,.int .i64 te]
       have HE7:Aside (EOwn (w6.alloc (.cells #[.bool va,.int .i64 pr,.int .i64 se,.int .i64 te] 133)) wo.heap.size (.slice ea acc.length ec) acc):=aae HE.out hb67
       have hk7: ∀k,k<wo.heap.size→k≠w.heap.size+1→(w6.alloc (.cells #[.bool va,.int .i64 pr,.int .i64 se,.int .i64 te] 133)).heap[k]? =wo.heap[k]?:=fun k hk hne=>(hb67.block k (Nat.lt_of_lt_of_le hk hsx)).trans (hkx k hk hne)
       have hs7:wo.heap.size≤(w6.alloc (.cells #[.bool va,.int .i64 pr,.int .i64 se,.int .i64 te] 133)).heap.size:=Nat.le_trans hsx hb67.size
       have hcase':(b=true∧17≤r.length∧elR (r.take 17)=some ⟨va,pr,se,te⟩)∨(b=false∧ ∀e',17≤r.length→elR (r.take 17)≠some e'):=by simpa using hcase
       clear hcase hrd r0 r1 rz0 rz1 m0 m1 mz0 mz1 HE hkx hb6 hb67
       rcases hcase' with ⟨rfl,hl17,hel⟩ | ⟨rfl,hno⟩
       ·obtain⟨hT2,hwt⟩:=a0c HT.out.1 hl17 hel
        have HT2:Hid (tb=afd (acc++[⟨va,pr,se,te⟩])++r.drop 17∧ ∀e∈acc++[⟨va,pr,se,te⟩],wtE e):=⟨hT2,fun e he=>by
         rcases List.mem_append.1 he with he | he
         ·exact HT.out.2 e he
         ·simp at he;subst he;exact hwt⟩
        clear hT2 hwt HT hel
        have HDL:Hid ((r.drop 17).length<r.length∧(r.drop 17).length≤65536):=⟨by rw[List.length_drop];omega,by rw[List.length_drop];omega⟩
        have hx1:Hid ((bsz r).extract 17 r.length=bsz (r.drop 17)):=by
         show _=_
         have e:(bsz r).data.toList=r:=by simp
         rw[adx,e,List.take_of_length_le (by rw[List.length_drop];exact Nat.le_refl _)]
        have hal2:Hid (acc.length+1≤65536):=by
         show _≤_
         have h1:=adp _ HT2.out.2
         have h2:=congrArg List.length HT2.out.1
         rw[List.length_append,h1,List.length_append] at h2
         simp only[List.length_cons,List.length_nil] at h2
         omega
        go_upto_region 20 with fail
        generalize w6.alloc (.cells #[.bool va,.int .i64 pr,.int .i64 se,.int .i64 te] 133)=w7 at*
        have hb8:=(Below.refl w7.heap.size w7).alloc (Nat.le_refl _) (.cells #[.bool va,.int .i64 pr,.int .i64 se,.int .i64 te] 133)
        have hm8:=hm7.below hb8 hm7.lt
        have hE8:=Blk.new w7 133 #[.bool va,.int .i64 pr,.int .i64 se,.int .i64 te]
        have HE8:Aside (EOwn (w7.alloc (.cells #[.bool va,.int .i64 pr,.int .i64 se,.int .i64 te] 133)) wo.heap.size (.slice ea acc.length ec) acc):=aae HE7.out hb8
        have HI8:Aside (Els (w7.alloc (.cells #[.bool va,.int .i64 pr,.int .i64 se,.int .i64 te] 133)).heap.size (w7.alloc (.cells #[.bool va,.int .i64 pr,.int .i64 se,.int .i64 te] 133)) (.slice (some ⟨w7.heap.size,0,none⟩) 1 1) [⟨va,pr,se,te⟩]):=.inr ⟨w7.heap.size,0,1,rfl,hE8.lt,fun j hj=>by
         obtain rfl:j=0:=by simpa using hj
         exact⟨hE8.cell 0,hE8.cell 1,hE8.cell 2,hE8.cell 3⟩⟩
        have hsum:acc.length+([⟨va,pr,se,te⟩]:List El).length≤4000000000000:=by simp;omega
        have hs8:wo.heap.size≤(w7.alloc (.cells #[.bool va,.int .i64 pr,.int .i64 se,.int .i64 te] 133)).heap.size:=Nat.le_trans hs7 hb8.size
        obtain⟨m0,m1,mz0,mz1⟩:=afv hm7
        have t0:w7.cell? ⟨w6.heap.size,0,none⟩=some (.bool va):=hE7.cell 0
        have t1:w7.cell? ⟨w6.heap.size,1,none⟩=some (.int .i64 pr):=hE7.cell 1
        have t2:w7.cell? ⟨w6.heap.size,2,none⟩=some (.int .i64 se):=hE7.cell 2
        have t3:w7.cell? ⟨w6.heap.size,3,none⟩=some (.int .i64 te):=hE7.cell 3
        have hhw:w.heap.size+1<wo.heap.size:=by omega
        go_wp2_with (first | (at_builtin;refine adt rfl _ _ rfl wo.heap.size _ acc rfl HE8.out [⟨va,pr,se,te⟩] _ _ rfl HI8.out hsum hs8 ?_;intro a9 c9 w9 hown9 hb9 hg9;have hm9:=hm8.below hb9 hhw;have y1:w9.cell? ⟨w.heap.size+1,1,none⟩=some (.slice ea acc.length ec):=hm9.cell 1;have yz1:=hm9.frozen 1))
        have hlen1:(acc++[⟨va,pr,se,te⟩]:List El).length=acc.length+1:=by simp
        have hm10:Blk (w9.setCell ⟨w.heap.size+1,1,none⟩ (.slice a9 (acc.length+1) c9)) (w.heap.size+1) 128 #[.slice av us.length ac,.slice a9 (acc++[⟨va,pr,se,te⟩]:List El).length c9]:=by
         rw[hlen1]
         exact hm9.set 1 _
        have HE10:Aside (EOwn (w9.setCell ⟨w.heap.size+1,1,none⟩ (.slice a9 (acc.length+1) c9)) wo.heap.size (.slice a9 (acc++[⟨va,pr,se,te⟩]:List El).length c9) (acc++[⟨va,pr,se,te⟩])):=by
         refine aaj ?_ hhw _
         have h9:=hown9
         unfold EOwn at h9
         rw[hlen1] at h9⊢
         exact h9
        have hs10:wo.heap.size≤(w9.setCell ⟨w.heap.size+1,1,none⟩ (.slice a9 (acc.length+1) c9)).heap.size:=by
         have:=Nat.le_trans hs8 hb9.size
         simpa[World.setCell] using this
        have hb79:=hb8.mono (show wo.heap.size≤w7.heap.size from hs7)
        have hbf:Below w.heap.size w (w9.setCell ⟨w.heap.size+1,1,none⟩ (.slice a9 (acc.length+1) c9)):=((hbw7.trans (hb79.mono (by omega))).trans (hb9.mono (by omega))).setCell (show w.heap.size≤w.heap.size+1 by omega) _
        have hkf: ∀k,k<wo.heap.size→k≠w.heap.size+1→(w9.setCell ⟨w.heap.size+1,1,none⟩ (.slice a9 (acc.length+1) c9)).heap[k]? =wo.heap[k]?:=fun k hk hne=>(Below.heap_setCell _ ⟨w.heap.size+1,1,none⟩ _ k hne).trans (((hb9.block k hk).trans (hb79.block k hk)).trans (hk7 k hk hne))
        rw[hx1.out]
        exact⟨⟨acc++[⟨va,pr,se,te⟩],r.drop 17,a9,c9,rfl,HT2,HDL.out.2,by rw[hlen1];exact hal2.out,hm10,HE10,hkf,hbf,hs10⟩,by
         show(bsz (r.drop 17)).size<(bsz r).size
         rw[aa8,aa8]
         exact HDL.out.1⟩
       ·have HF:Hid (aem s.data.toList=none):=anp HCL.out (a2w HT.out.1 HT.out.2 hemp hno)
        clear HT hno
        obtain⟨r0,r1,rz0,rz1⟩:=afv hr7
        obtain⟨m0,m1,mz0,mz1⟩:=afv hm7
        go_wp2_with fail
        refine bodyPost_ret (abt (hr7.put2 _ _) rfl rfl) rfl ?_
        exact⟨aet hbw7 (Nat.le_refl _) _ _,_,_,_,_,_,_,false,rfl,.inr ⟨rfl,HF.out⟩⟩
 ·have HF:Hid (aem s.data.toList=none):=a2t (by rw[←hk1];exact h3)
  have h3':((k1:Int) !=2)=true:=by simp;omega
  obtain⟨r0,r1,rz0,rz1⟩:=afv hr1
  obtain⟨m0,m1,mz0,mz1⟩:=afv hm1
  clear hk1 HSS
  go_wp2_with fail
  refine bodyPost_ret (abt (hr1.put2 _ _) rfl rfl) rfl ?_
  exact⟨aet hbw1 (Nat.le_refl _) _ _,_,_,_,_,_,_,false,rfl,.inr ⟨rfl,HF.out⟩⟩
theorem atw: ∀a b:List Int,0<aag a b→aag b a<0:=by
 intro a
 induction a with
 | nil=>intro b h;cases b<;>simp[aag] at h
 | cons x a ih=>
  intro b h
  cases b with
  | nil=>simp[aag]
  | cons y b=>
   simp only[aag] at h⊢
   by_cases h1:x<y
   ·rw[if_pos h1] at h;omega
   ·rw[if_neg h1] at h
    by_cases h2:y<x
    ·rw[if_pos h2];omega
    ·rw[if_neg h2] at h
     rw[if_neg h2,if_neg h1]
     exact ih b h
theorem aya {l:List Ent}{x:Ent}{k:Nat}(hr:amc l)(hp:PlaceE l x.1 k)(hno: ∀i (h:i<l.length),(l[i]).1≠x.1):amc (l.take k++[x]++l.drop k):=by
 unfold amc at hr⊢
 rw[List.map_append,List.map_append,List.append_assoc,List.pairwise_append]
 have hsp:l.map Prod.fst=(l.take k).map Prod.fst++(l.drop k).map Prod.fst:=by rw[←List.map_append,List.take_append_drop]
 rw[hsp,List.pairwise_append] at hr
 have hlo: ∀a∈(l.take k).map Prod.fst,aag a x.1<0:=fun a ha=>by
  obtain⟨y,hy,rfl⟩:=List.mem_map.1 ha
  obtain⟨i,hi,rfl⟩:=List.mem_iff_getElem.1 hy
  rw[List.length_take] at hi
  rw[List.getElem_take]
  exact hp.lo i (by omega) (by omega)
 have hhi: ∀a∈(l.drop k).map Prod.fst,aag x.1 a<0:=fun a ha=>by
  obtain⟨y,hy,rfl⟩:=List.mem_map.1 ha
  obtain⟨i,hi,rfl⟩:=List.mem_iff_getElem.1 hy
  rw[List.length_drop] at hi
  rw[List.getElem_drop]
  have h1:=hp.hi (k+i) (by omega) (by omega)
  refine atw _ _ ?_
  have h2:aag (l[k+i]).1 x.1≠0:=fun e=>hno (k+i) (by omega) (al8 _ _ e)
  omega
 refine⟨hr.1,?_,?_⟩
 ·rw[List.pairwise_append]
  refine⟨by simp,hr.2.1,fun a ha b hb=> ?_⟩
  simp at ha
  subst ha
  exact hhi b hb
 ·intro a ha b hb
  rcases List.mem_append.1 hb with hb | hb
  ·simp at hb
   subst hb
   exact hlo a ha
  ·exact hr.2.2 a ha b hb
theorem a1q {l acc:List Ent}{x:Ent}{k:Nat}(h:l.Perm acc):(l.take k++[x]++l.drop k).Perm (acc++[x]):=by
 have h1:(l.take k++[x]++l.drop k).Perm (l.take k++l.drop k++[x]):=by
  rw[List.append_assoc,List.append_assoc]
  exact(List.perm_append_left_iff _).2 List.perm_append_comm
 rw[List.take_append_drop] at h1
 exact h1.trans (h.append_right _)
theorem azs {l acc:List Ent}(h:l.Perm acc)(p:List Int):(∃i,∃hi:i<l.length,(l[i]).1=p)↔akk acc p=true:=by
 unfold akk
 rw[List.any_eq_true]
 constructor
 ·rintro⟨i,hi,e⟩
  exact⟨l[i],h.mem_iff.1 (List.getElem_mem hi),by simp[e]⟩
 ·rintro⟨x,hx,e⟩
  obtain⟨i,hi,e2⟩:=List.mem_iff_getElem.1 (h.mem_iff.2 hx)
  exact⟨i,hi,by rw[e2];simpa using e⟩
theorem ave {C:List (List UInt8)}{j:Nat}(hj:j<C.length){n:Int}{acc:List Ent}(h:aax C[j]=true):afh (C.drop j) n acc=afh (C.drop (j+1)) (n+1) acc:=by
 rw[List.drop_eq_getElem_cons hj,afh,if_pos h]
theorem a1b {C:List (List UInt8)}{j:Nat}(hj:j<C.length){n:Int}{acc:List Ent}(h:aax C[j]=false)(hm:aem C[j]=none):afh (C.drop j) n acc=.error (60,n+1):=by
 rw[List.drop_eq_getElem_cons hj,afh,if_neg (by simp[h]),hm]
theorem avd {C:List (List UInt8)}{j:Nat}(hj:j<C.length){n:Int}{x:Ent}{acc:List Ent}(h:aax C[j]=false)(hm:aem C[j]=some x)(hw: ¬x.2.all aaf=true):afh (C.drop j) n acc=.error (62,n+1):=by
 rw[List.drop_eq_getElem_cons hj,afh,if_neg (by simp[h]),hm]
 simp only
 rw[if_neg hw]
theorem axv {C:List (List UInt8)}{j:Nat}(hj:j<C.length){n:Int}{x:Ent}{acc:List Ent}(h:aax C[j]=false)(hm:aem C[j]=some x)(hw:x.2.all aaf=true)(ha:akk acc x.1=true):afh (C.drop j) n acc=.error (61,n+1):=by
 rw[List.drop_eq_getElem_cons hj,afh,if_neg (by simp[h]),hm]
 simp only
 rw[if_pos hw,if_pos ha]
theorem a1d {C:List (List UInt8)}{j:Nat}(hj:j<C.length){n:Int}{x:Ent}{acc:List Ent}(h:aax C[j]=false)(hm:aem C[j]=some x)(hw:x.2.all aaf=true)(ha:akk acc x.1=false)(hl:4096≤acc.length):afh (C.drop j) n acc=.error (2,n+1):=by
 rw[List.drop_eq_getElem_cons hj,afh,if_neg (by simp[h]),hm]
 simp only
 rw[if_pos hw,if_neg (by simp[ha]),if_pos hl]
theorem a1c {C:List (List UInt8)}{j:Nat}(hj:j<C.length){n:Int}{x:Ent}{acc:List Ent}(h:aax C[j]=false)(hm:aem C[j]=some x)(hw:x.2.all aaf=true)(ha:akk acc x.1=false)(hl:acc.length<4096):afh (C.drop j) n acc=afh (C.drop (j+1)) (n+1) (acc++[x]):=by
 rw[List.drop_eq_getElem_cons hj,afh,if_neg (by simp[h]),hm]
 simp only
 rw[if_pos hw,if_neg (by simp[ha]),if_neg (by omega)]
theorem a4l {C:List (List UInt8)}{j:Nat}(hj:C.length≤j){n:Int}{acc:List Ent}:afh (C.drop j) n acc=.ok acc:=by
 rw[List.drop_of_length_le hj,afh]
theorem az7 {l:List UInt8}{x:Ent}(h:aem l=some x):x.1.length≤8∧x.2.length≤16:=by
 obtain⟨h1,h2⟩:=ano h
 exact⟨(ap1 (ajh h1).2.2).2,(elsR_len h2).2⟩
theorem a4y:(Tryz.prog.info? 128).map (fun i=>(i.zero,i.size,i.bytes))=some (some (.agg #[.slice none 0 0,.slice none 0 0]),2,48):=by kernel_rfl
abbrev EV:=Ent×Value×Value
def ab0 (ps:List EV):List Value:=ps.flatMap fun x=>[x.2.1,x.2.2]
theorem ag5 (a b:List EV):ab0 (a++b)=ab0 a++ab0 b:=by simp[ab0]
theorem alu (ps:List EV):(ab0 ps).length=ps.length*2:=by
 induction ps with
 | nil=>rfl
 | cons x r ih=>rw[show ab0 (x::r)=[x.2.1,x.2.2]++ab0 r from rfl,List.length_append,ih];simp;omega
theorem a2r: ∀(ps:List EV) (j:Nat) (hj:j<ps.length),(ab0 ps)[j*2]? =some (ps[j]).2.1∧(ab0 ps)[j*2+1]? =some (ps[j]).2.2:=by
 intro ps
 induction ps with
 | nil=>intro j hj;simp at hj
 | cons x r ih=>
  intro j hj
  cases j with
  | zero=>exact⟨rfl,rfl⟩
  | succ j=>
   have h:=ih j (by simpa using hj)
   rw[show ab0 (x::r)=[x.2.1,x.2.2]++ab0 r from rfl]
   rw[List.getElem?_append_right (by simp;omega),List.getElem?_append_right (by simp;omega)]
   simp only[List.length_cons,List.length_nil,List.getElem_cons_succ]
   rw[show (j+1)*2-(0+1+1)=j*2 by omega,show(j+1)*2+1-(0+1+1)=j*2+1 by omega]
   exact h
theorem abh {w:World}{ops:Array Oper}{rest:List Oper}{o:Oper}{a:Act}{Q:Exit→Act→World→Prop}(hgd:o.guard=none)(s x:Operand)
  (ho:o.op=.call {callee:=.builtin .append,args:= #[s,x],argTypes:= #[29,29]})
  (base:Nat) (v:Value) (n:Nat) (xs:List Value) (hs:a.eval s=v) (hown:w.ownsRow base 128 2 v n xs) (pa:Option Addr) (m pc:Nat) (news:List Value) (hx:a.eval x=.slice pa m pc) (hn:news.length=m*2)
  (hc:m≠0→ ∃ad,pa=some ad∧ ∀j u,news[j]? =some u→w.cell? (ad.add j)=some u) (h1: ∀u∈news,u.oneCell'=true) (hlen:n+m≤1048576) (hbase:base≤w.heap.size)
  (h: ∀a' c' w',w'.ownsRow base 128 2 (.slice a' (n+m) c') (n+m) (xs++news)→w.grownBy w' v.ownBlock→wpList Tryz.prog ops Q rest (a.put o.dst (.slice a' (n+m) c')) w'):
  wpList Tryz.prog ops Q (o::rest) a w:=by
 obtain⟨i,hi,hz,hsz,hby⟩:=info_parts a4y
 by_cases hm:m=0
 ·subst hm
  have hnil:news=[]:=List.eq_nil_of_length_eq_zero (by omega)
  subst hnil
  obtain⟨a',c',rfl⟩:=aay hown
  have hle:n≤c':=by
   by_cases h0:0<n
   ·obtain⟨_,_,e,h2,_⟩:=at8 hown h0
    cases e;exact h2
   ·omega
  have hr:(Builtin.append_ #[29,29] o.type #[.slice a' n c',.slice pa 0 pc]).run Tryz.prog w=.ok (.slice a' n c') w:=by
   cases pa with
   | none=>exact run_append_nothing (P:=Tryz.prog) w 29 29 o.type 128 i Tryz.underlying29 hi a' n c' hle _ (Src.ofNil w Tryz.underlying29 pc)
   | some ad=>exact run_append_nothing (P:=Tryz.prog) w 29 29 o.type 128 i Tryz.underlying29 hi a' n c' hle _ (Src.ofSlice w Tryz.underlying29 ad 0 pc [] (by simp) (by simp) (by simp))
  refine wpList_plain hgd fun K hK=> ?_
  unfold Oper.wp execOp
  simp only[ho,resolve,invoke,builtin,Sem.run_bind,Sem.run_pure,Result.andThen_ok,List.map_toArray,List.map_cons,List.map_nil,hs,hx,hr]
  have:=h a' c' w (by rw[List.append_nil];exact hown) (World.grownBy.refl _ _)
  exact hK _ _ this
 ·obtain⟨ad,rfl,hcell⟩:=hc hm
  refine wpList_append_own_at (P:=Tryz.prog) _ hgd s x 29 ho base 128 i _ 2 48 Tryz.underlying29 hi hz hsz hby rfl (by decide) v n xs hs hown ad m pc news hx hn hcell h1 ?_ ?_ ?_ ?_
  ·unfold maxLen;omega
  ·omega
  ·omega
  ·intro v' w' h1 h2 _ h4
   obtain⟨a',c',rfl⟩:=aay h1
   exact h a' c' w' h1 h2
def NOwn (w:World)(base:Nat)(v:Value)(l:List Ent):Prop:= ∃ps:List EV,w.ownsRow base 128 2 v ps.length (ab0 ps)∧(∀x∈ps,IOwn w base x.2.1 x.1.1∧EOwn w base x.2.2 x.1.2)∧ps.map Prod.fst=l
theorem NOwn.go {w w':World}{base:Nat}{v:Value}{l:List Ent}(h:NOwn w base v l)(hb:Below w.heap.size w w'):NOwn w' base v l:=by
 obtain⟨ps,h1,h2,h3⟩:=h
 exact⟨ps,aae h1 hb,fun x hx=>⟨aae (h2 x hx).1 hb,aae (h2 x hx).2 hb⟩,h3⟩
theorem NOwn.set {w:World}{base:Nat}{v:Value}{l:List Ent}(h:NOwn w base v l){p:Addr}(hp:p.block<base)(u:Value):NOwn (w.setCell p u) base v l:=by
 obtain⟨ps,h1,h2,h3⟩:=h
 exact⟨ps,aaj h1 hp u,fun x hx=>⟨aaj (h2 x hx).1 hp u,aaj (h2 x hx).2 hp u⟩,h3⟩
structure LE (w:World)(vl:Value)(C:List (List UInt8))(l:List Ent)(vm:Value)(ps:List EV)(wr:World):Prop where
 res:Blk wr w.heap.size 31 #[.slice none 0 0]
 box:Blk wr (w.heap.size+1) 31 #[vm]
 lines:SOwn wr w.heap.size vl C
 ents:wr.ownsRow w.heap.size 128 2 vm ps.length (ab0 ps)
 parts: ∀x∈ps,IOwn wr w.heap.size x.2.1 x.1.1∧EOwn wr w.heap.size x.2.2 x.1.2
 is:ps.map Prod.fst=l
 below:Below w.heap.size w wr
section
variable {w:World}{vl:Value}{C:List (List UInt8)}{l:List Ent}{vm:Value}{ps:List EV}{wr:World}
theorem LE.go (h:LE w vl C l vm ps wr){w':World}(hb:Below wr.heap.size wr w'):LE w vl C l vm ps w' where
 res:=h.res.below hb h.res.lt
 box:=h.box.below hb h.box.lt
 lines:=aae h.lines hb
 ents:=aae h.ents hb
 parts:=fun x hx=>⟨aae (h.parts x hx).1 hb,aae (h.parts x hx).2 hb⟩
 is:=h.is
 below:=h.below.trans (hb.mono h.below.size)
theorem a3v {W:World}{base:Nat}(h:W.ownsRow base 128 2 vm ps.length (ab0 ps))(hp: ∀x∈ps,IOwn W base x.2.1 x.1.1∧EOwn W base x.2.2 x.1.2)(hl:ps.map Prod.fst=l):NIn W.heap.size W vm l:=by
 have hll:l.length=ps.length:=by rw[←hl,List.length_map]
 rcases h.2 with ⟨rfl,h0⟩ | ⟨g,cap,cur,rfl,hb,hg,hc,hm,hs,htk⟩
 ·exact .inl ⟨_,_,rfl,List.eq_nil_of_length_eq_zero (by omega)⟩
 ·refine .inr ⟨g,0,cap,by rw[hll],(Array.getElem?_eq_some_iff.1 hg).1,fun j hj=> ?_⟩
  have hjp:j<ps.length:=by omega
  obtain⟨f1,f2⟩:=a2r ps j hjp
  have hall: ∀j u,(ab0 ps)[j]? =some u→W.cell? ⟨g,j,none⟩=some u:=fun j u hu=>by
   rw[←htk] at hu
   have hj:=(List.getElem?_eq_some_iff.1 hu).1
   rw[List.getElem?_take_of_lt (by rw[List.length_take] at hj;omega)] at hu
   simp only[World.cell?,hg]
   simpa using hu
  have he:l[j]=(ps[j]).1:=by subst hl;simp
  obtain⟨q1,q2⟩:=hp _ (List.getElem_mem hjp)
  refine⟨(ps[j]).2.1,(ps[j]).2.2,by rw[Nat.zero_add];exact hall _ _ f1,by rw[he];exact q1.ints,by rw[Nat.zero_add];exact hall _ _ f2,by rw[he];exact q2.els⟩
theorem NOwn.min {W:World}{base:Nat}(h:NOwn W base vm l):NIn W.heap.size W vm l:=by
 obtain⟨ps,h1,h2,h3⟩:=h
 exact a3v h1 h2 h3
theorem LE.min (h:LE w vl C l vm ps wr):NIn wr.heap.size wr vm l:=a3v h.ents h.parts h.is
theorem ae2 {b1:Nat}{e1:TypeId}{s1 k1:Nat}{v1:Value}{x1:List Value}{g:Nat}{u v:Value}(hbk:Blk wr g 31 #[u])(ht:e1≠31)(h1:wr.ownsRow b1 e1 s1 v1 k1 x1):(wr.setCell ⟨g,0,none⟩ v).ownsRow b1 e1 s1 v1 k1 x1:=
 adj h1 (fun g' hg=>Below.heap_setCell wr ⟨g,0,none⟩ _ g' (by
  intro e
  have e':g'=g:=e
  subst e'
  obtain⟨_,c,f,q⟩:=aal h1 hg
  have:=q.symm.trans hbk
  simp only[Option.some.injEq,Obj.cells.injEq] at this
  exact ht this.2.1))
theorem LE.put (h:LE w vl C l vm ps wr){vm':Value}{ps':List EV}{l':List Ent}{b:Nat}(hr:wr.ownsRow b 128 2 vm' ps'.length (ab0 ps'))(hb:w.heap.size≤b)(hp: ∀x∈ps',IOwn wr w.heap.size x.2.1 x.1.1∧EOwn wr w.heap.size x.2.2 x.1.2)(hl:ps'.map Prod.fst=l'):
  LE w vl C l' vm' ps' (wr.setCell ⟨w.heap.size+1,0,none⟩ vm'):=by
 refine⟨(Below.heap_setCell wr ⟨w.heap.size+1,0,none⟩ _ w.heap.size (by show w.heap.size≠w.heap.size+1;omega)).trans h.res,?_,ae2 h.box (by decide) h.lines,aah (ae2 h.box (by decide) hr) hb,fun x hx=>⟨ae2 h.box (by decide) (hp x hx).1,ae2 h.box (by decide) (hp x hx).2⟩,hl,h.below.setCell (by show w.heap.size≤w.heap.size+1;omega) _⟩
 have:=h.box.set 0 vm'
 simpa using this
theorem LE.fin2 (h:LE w vl C l vm ps wr)(v:Value):NOwn (wr.setCell ⟨w.heap.size,0,none⟩ v) w.heap.size vm l:=
 ⟨ps,ae2 h.res (by decide) h.ents,fun x hx=>⟨ae2 h.res (by decide) (h.parts x hx).1,ae2 h.res (by decide) (h.parts x hx).2⟩,h.is⟩
end
theorem aqz {w:World}{base:Nat}{ps:List EV}(h: ∀x∈ps,IOwn w base x.2.1 x.1.1∧EOwn w base x.2.2 x.1.2): ∀u∈ab0 ps,u.oneCell'=true:=fun u hu=>by
 obtain⟨x,hx,hu⟩:=List.mem_flatMap.1 hu
 obtain⟨a,c,e⟩:=(h x hx).1.val
 obtain⟨a2,c2,e2,_⟩:=(h x hx).2.cap
 simp only[List.mem_cons,List.not_mem_nil,or_false] at hu
 rcases hu with rfl | rfl
 ·rw[e];rfl
 ·rw[e2];rfl
theorem alv {w:World}{base n mc g:Nat}{ps:List EV}(h:w.ownsRow base 128 2 (.slice (some ⟨g,0,none⟩) n mc) ps.length (ab0 ps))(k0:Nat)(hk:k0≤ps.length):
  (∀j u,(ab0 (ps.take k0))[j]? =some u→w.cell? ((⟨g,0,none⟩:Addr).add j)=some u)∧(∀j u,(ab0 (ps.drop k0))[j]? =some u→w.cell? ((⟨g,k0*2,none⟩:Addr).add j)=some u)∧base≤g∧g<w.heap.size∧ps.length≤mc:=by
 rcases h.2 with ⟨e0,hz0⟩ | ⟨g',cap,cur,e,hb,hg,hc,hm,hs,htk⟩
 ·cases e0
 ·obtain⟨e1,_,rfl⟩:=Value.slice.inj e
  cases e1
  have hall: ∀j u,(ab0 ps)[j]? =some u→w.cell? ⟨g,j,none⟩=some u:=fun j u hu=>by
   rw[←htk] at hu
   have hj:=(List.getElem?_eq_some_iff.1 hu).1
   rw[List.getElem?_take_of_lt (by rw[List.length_take] at hj;omega)] at hu
   simp only[World.cell?,hg]
   simpa using hu
  have hsp:ab0 ps=ab0 (ps.take k0)++ab0 (ps.drop k0):=by rw[←ag5,List.take_append_drop]
  have hlt:(ab0 (ps.take k0)).length=k0*2:=by rw[alu,List.length_take];omega
  refine⟨fun j u hu=> ?_,fun j u hu=> ?_,hb,(Array.getElem?_eq_some_iff.1 hg).1,hc⟩
  ·rw[Go.WideShapes.add_plain,Nat.zero_add]
   refine hall j u ?_
   rw[hsp,List.getElem?_append_left (List.getElem?_eq_some_iff.1 hu).1]
   exact hu
  ·rw[show (⟨g,k0*2,none⟩:Addr).add j=⟨g,k0*2+j,none⟩ by simp[Addr.add]]
   refine hall (k0*2+j) u ?_
   rw[hsp,List.getElem?_append_right (by omega),hlt,Nat.add_sub_cancel_left]
   exact hu
theorem abp {tmps:Array Value}{w:World}{h:Nat}{x a b:Value}(hb:Blk w h 31 #[x])(t2:tmps[2]?.getD undef=.pointer (some ⟨h,0,none⟩))(t3:tmps[3]?.getD undef=a)(t4:tmps[4]?.getD undef=b):
  (results Tryz.f20 tmps).run Tryz.prog w=.ok (.tuple #[.agg #[x],a,b]) w:=by
 have c0:w.cell? ⟨h,0,none⟩=some x:=hb.cell 0
 simp[results,Tryz.results20,go_sem,t2,t3,t4,c0]
end Go.Proofs.YtpfkoldfbecdlaaGreatDoor
