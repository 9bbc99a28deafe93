/- Contracts and lemmas (nothing is claimed here). -/
import Derived.Test.YtpfkoldfbecdlaaGreatDoorJ29
import Derived.Test.YtpfkoldfbecdlaaGreatDoorJ20
import Derived.Test.YtpfkoldfbecdlaaGreatDoorJ28
import Derived.Test.YtpfkoldfbecdlaaGreatDoorJ13
import Derived.Test.YtpfkoldfbecdlaaGreatDoorJ8
namespace Go.Proofs.YtpfkoldfbecdlaaGreatDoor
open Go.RowKit Go.Vf Go.Maps
def LinePostE (l:List UInt8)(w:World)(e:Ending)(w':World):Prop:=Below w.heap.size w w'∧ ∃(pa:Option Addr) (pn pc:Nat) (ea:Option Addr) (en ec:Nat) (ok:Bool),e=.returned (.tuple #[.agg #[.slice pa pn pc,.slice ea en ec],.bool ok])∧((ok=true∧ ∃x,ad9 l=some x∧IOwn w' w.heap.size (.slice pa pn pc) x.1∧EOwn w' w.heap.size (.slice ea en ec) x.2)∨(ok=false∧ad9 l=none))
theorem abt {tmps:Array Value}{w:World}{h:Nat}{x y b:Value}(hb:Blk w h 128 #[x,y])(t2:tmps[2]?.getD undef=.pointer (some ⟨h,0,none⟩))(t3:tmps[3]?.getD undef=b):
  (results Tryz.f53 tmps).run Tryz.prog w=.ok (.tuple #[.agg #[x,y],b]) w:=by
 have c0:w.cell? ⟨h,0,none⟩=some x:=hb.cell 0
 have c1:w.cell? ⟨h,1,none⟩=some y:=hb.cell 1
 simp[results,Tryz.results53,go_sem,t2,t3,c0,c1]
abbrev put2 (w:World)(h:Nat)(a b:Value):World:=(w.setCell ⟨h,0,none⟩ a).setCell ⟨h,1,none⟩ b
theorem Blk.put2 {w:World}{h:Nat}{t:TypeId}{a b:Value}(hb:Blk w h t #[a,b])(a' b':Value):Blk (put2 w h a' b') h t #[a',b']:=(hb.set 0 a').set 1 b'
theorem aef {B:Nat}{a w:World}{h:Nat}(hb:Below B a w)(hB:B≤h)(a' b':Value):Below B a (put2 w h a' b'):=(hb.setCell (p:=⟨h,0,none⟩) hB _).setCell (p:=⟨h,1,none⟩) hB _
structure TwoC (w:World)(h:Nat)(a b:Value):Prop where
 c0:w.cell? ⟨h,0,none⟩=some a
 c1:w.cell? ⟨h,1,none⟩=some b
 f0:w.frozen? ⟨h,0,none⟩=false
 f1:w.frozen? ⟨h,1,none⟩=false
theorem ae6 {w:World}{h:Nat}{t:TypeId}{a b:Value}(hb:Blk w h t #[a,b]):TwoC w h a b:=⟨hb.cell 0,hb.cell 1,hb.frozen 0,hb.frozen 1⟩
theorem list_two {α:Type}{l:List α}(h:l.length=2): ∃a b,l=[a,b]:=by
 match l,h with
 | [a,b],_=>exact⟨a,b,rfl⟩
theorem own_block {w w':World}{base:Nat}{e:TypeId}{size:Nat}{v:Value}{k:Nat}{xs:List Value}(h:w.ownsRow base e size v k xs)(hk: ∀j,v.ownBlock=some j→w'.heap[j]? =w.heap[j]?):w'.ownsRow base e size v k xs:=by
 refine⟨h.1,?_⟩
 rcases h.2 with hn | ⟨g,cap,cur,rfl,hb,hgg,rest⟩
 ·exact .inl hn
 ·exact .inr ⟨g,cap,cur,rfl,hb,(hk g (by simp[Value.ownBlock])).trans hgg,rest⟩
set_option maxHeartbeats 8000000 in
set_option maxRecDepth 20000 in
theorem refLineE_any (s:ByteArray)(hs:s.size≤65536)(w:World):Calls Tryz.prog 53 #[.string s] w fun e w'=>LinePostE s.data.toList w e w':=by
 have hb0:=((Below.refl w.heap.size w).alloc (Nat.le_refl _) (.cells #[.slice none 0 0,.slice none 0 0] 128)).alloc (by simp) (.cells #[.slice none 0 0,.slice none 0 0] 128)
 have hn1:Blk ((w.alloc (.cells #[.slice none 0 0,.slice none 0 0] 128)).alloc (.cells #[.slice none 0 0,.slice none 0 0] 128)) w.heap.size 128 #[.slice none 0 0,.slice none 0 0]:=(Below.heap_alloc _ _ _ (by simp)).trans (Blk.new w 128 _)
 have hn2:Blk ((w.alloc (.cells #[.slice none 0 0,.slice none 0 0] 128)).alloc (.cells #[.slice none 0 0,.slice none 0 0] 128)) (w.heap.size+1) 128 #[.slice none 0 0,.slice none 0 0]:=by
  have:=Blk.new (w.alloc (.cells #[.slice none 0 0,.slice none 0 0] 128)) 128 #[.slice none 0 0,.slice none 0 0]
  simpa using this
 have hsz:((w.alloc (.cells #[.slice none 0 0,.slice none 0 0] 128)).alloc (.cells #[.slice none 0 0,.slice none 0 0] 128)).heap.size=w.heap.size+2:=by simp
 go_enter Tryz.func53,Tryz.ntmps53
 go_upto_region 2 with fail
 generalize (w.alloc (.cells #[.slice none 0 0,.slice none 0 0] 128)).alloc (.cells #[.slice none 0 0,.slice none 0 0] 128)=W at hb0 hn1 hn2 hsz⊢
 have HSZ:Hid (W.heap.size=w.heap.size+2):=hsz
 clear hsz
 have hcut:=agu s 59 hs W
 go_wp2_with fail
 refine hcut.mono ?_
 rintro e w1 ⟨a1,k1,c1,rfl,hown1,hb1⟩
 have hr1:=hn1.below hb1 hn1.lt
 have hm1:=hn2.below hb1 hn2.lt
 have hbw1:Below w.heap.size w w1:=hb0.trans (hb1.mono hb0.size)
 have hW1:w.heap.size+2≤w1.heap.size:=by have:=hb1.size;rw[HSZ.out] at this;exact this
 have hk1:k1=(aa7 59 s.data.toList).length:=by obtain⟨_,_,e⟩:=aba hown1;cases e;rfl
 have HSS:Hid (∀x∈aa7 59 s.data.toList,x.length≤65536):=fun x hx=>Nat.le_trans (abj 59 _ x hx) (by rw[←Lib.size_eq];exact hs)
 by_cases h3:k1=2
 ·rw[h3] at hk1
  obtain⟨ta,tb,hcl⟩: ∃ta tb,aa7 59 s.data.toList=[ta,tb]:=list_two hk1.symm
  have HCL:Hid (aa7 59 s.data.toList=[ta,tb]):=hcl
  have hza:=HSS.out ta (by rw[hcl];simp)
  have hzb:=HSS.out tb (by rw[hcl];simp)
  rw[hcl] at hown1
  obtain⟨g,cp,e1,hg,hgW,hcells⟩:=hown1.cells (by simp)
  rw[HSZ.out] at hgW
  cases e1
  have q0:=hcells 0 (by simp)
  have q1:=hcells 1 (by simp)
  simp only[List.getElem_cons_zero,List.getElem_cons_succ] at q0 q1
  clear hcells hk1 hcl hown1 HSS hn1 hn2 hcut h3
  have hcut2:=agu (bsz ta) 32 (by rw[ab8];exact hza) w1
  obtain⟨r0,r1,rz0,rz1⟩:=ae6 hr1
  obtain⟨m0,m1,mz0,mz1⟩:=ae6 hm1
  clear r0 r1 rz0 rz1 m0 m1 mz0 mz1
  go_wp2_with fail
  refine hcut2.mono ?_
  rintro e w2 ⟨a2,k2,c2,rfl,hown2,hb2⟩
  have hown2':SOwn w2 w1.heap.size (.slice a2 k2 c2) (aa7 32 ta):=hown2
  have hcz: ∀x∈aa7 32 ta,x.length≤65536:=fun x hx=>Nat.le_trans (abj 32 _ x hx) hza
  have hcpos:0<(aa7 32 ta).length:=List.length_pos_iff.2 (cutL_ne 32 ta)
  have HLONG:Hid (8<(aa7 32 ta).length→rowR ta=none):=rowR_long
  have HBAD:Hid (∀i (hi:i<(aa7 32 ta).length),(∀n:Nat,acf (n:Int)=true→(aa7 32 ta)[i]≠aaj n)→rowR ta=none):=fun i hi h=>rowR_bad hi h
  have HGOOD:Hid (∀us:List Nat,aa7 32 ta=us.map aaj→us.length≤8→(∀u∈us,acf (u:Int)=true)→rowR ta=some (us.map fun q:Nat=>(q:Int))):=fun us h1 h2 h3=>rowR_good h1 h2 h3
  generalize aa7 32 ta=cs at hown2' hcz hcpos HLONG HBAD HGOOD
  obtain⟨g5,cp5,e5,hg5,hgW5,hcell5⟩:=hown2'.cells hcpos
  simp only[Value.slice.injEq] at e5
  obtain⟨rfl,hk5,rfl⟩:=e5
  have HK5:Hid (k2=cs.length):=hk5
  have hr5:=hr1.below hb2 hr1.lt
  have hm5:=hm1.below hb2 hm1.lt
  have hbw5:=hbw1.trans (hb2.mono hbw1.size)
  have hW5:w.heap.size+2≤w2.heap.size:=Nat.le_trans hW1 hb2.size
  have q1':=(hb2.cell (p:=⟨g,1,none⟩) hg).trans q1
  have hgl:g<w2.heap.size:=Nat.lt_of_lt_of_le hg hb2.size
  clear hown2 hown2' hcut2 hk5 hcpos hr1 hm1 hb2 q0 q1
  obtain⟨r0,r1,rz0,rz1⟩:=ae6 hr5
  obtain⟨m0,m1,mz0,mz1⟩:=ae6 hm5
  by_cases h8:8<k2
  ·have HF:Hid (ad9 s.data.toList=none):=entR_norow HCL.out (HLONG.out (by rw[←HK5.out];exact h8))
   go_wp2_with fail
   refine bodyPost_ret (abt (hr5.put2 _ _) rfl rfl) rfl ?_
   exact⟨aef hbw5 (Nat.le_refl _) _ _,_,_,_,_,_,_,false,rfl,.inr ⟨rfl,HF.out⟩⟩
  ·have HCS:Hid (∀x:World,(∀k,k<w2.heap.size→k≠w.heap.size+1→x.heap[k]? =w2.heap[k]?)→(Blk x w.heap.size 128 #[.slice none 0 0,.slice none 0 0]∧x.cell? ⟨g,1,none⟩=some (.string (bsz tb))∧ ∀j (hj:j<cs.length),x.cell? ⟨g5,j,none⟩=some (.string (bsz cs[j])))):=fun x hx=>⟨(hx _ (by omega) (by omega)).trans hr5,by
    rw[←q1']
    simp only[World.cell?,hx g hgl (by omega)],fun j hj=>by
    rw[←hcell5 j hj]
    simp only[World.cell?,hx g5 hg5 (by omega)]⟩
   clear hcell5 hr5 q1' r0 r1 rz0 rz1 m0 m1 mz0 mz1
   go_wp2_with fail
   go_loopw [7,8,9] (fun i _ _ wr=> ∃(j:Nat) (us:List Nat) (av:Option Addr) (ac:Nat),j≤k2∧i=.int .i64 j∧us.length=j∧Blk wr (w.heap.size+1) 128 #[.slice av us.length ac,.slice none 0 0]∧IOwn wr w2.heap.size (.slice av us.length ac) (us.map fun q:Nat=>(q:Int))∧Hid (cs.take j=us.map aaj∧ ∀u∈us,acf (u:Int)=true)∧(∀k,k<w2.heap.size→k≠w.heap.size+1→wr.heap[k]? =w2.heap[k]?)∧Below w.heap.size w wr∧w2.heap.size≤wr.heap.size) (fun i _ _ _=>k2-(intOf i).toNat)
   case atStart=>exact⟨0,[],none,0,by omega,rfl,rfl,hm5,IOwn.nil _ _,⟨by simp,by simp⟩,fun _ _ _=>rfl,hbw5,Nat.le_refl _⟩
   case round=>
    obtain⟨j,us,av,ac,hj,rfl,haj,hmr,hown,HP,hkp,hbel,hszr⟩:=hrel
    have HAJ:Hid (us.length=j):=haj
    clear haj
    obtain⟨hrr,hq1,hcell⟩:=HCS.out wr hkp
    obtain⟨r0,r1,rz0,rz1⟩:=ae6 hrr
    obtain⟨m0,m1,mz0,mz1⟩:=ae6 hmr
    by_cases hlt:j<k2
    ·have hltc:j<cs.length:=by rw[←HK5.out];exact hlt
     have hcj:=hcell j hltc
     have hzj:=hcz _ (List.getElem_mem hltc)
     have HBJ:Hid ((∀n:Nat,acf (n:Int)=true→cs[j]≠aaj n)→rowR ta=none):=HBAD.out j hltc
     have HTK:Hid (cs.take (j+1)=cs.take j++[cs[j]]):=by show _=_;rw[List.take_add_one,List.getElem?_eq_getElem hltc];rfl
     generalize cs[j]=tj at hcj hzj HBJ HTK
     have hpj:=number_any2 (bsz tj) (by rw[ab8];omega) wr
     clear hcell hq1
     go_wp2_with fail
     refine hpj.mono ?_
     rintro e w6 ⟨q,bq,rfl,hq,rfl⟩
     have hq':NumOg tj q bq:=hq
     clear hq hpj
     rcases hq' with ⟨rfl,n,rfl,hn6,hqn⟩ | ⟨rfl,hq'⟩
     ·have hip:=isPoint_anyr (n:Int) wr
      cases hpt:isPt (n:Int) with
      | true=>
       rw[hpt] at hip
       have HP2:Hid (cs.take (j+1)=(us++[n]).map aaj∧ ∀u∈us++[n],acf (u:Int)=true):=by
        refine⟨?_,?_⟩
        ·rw[HTK.out,HP.out.1,hqn];simp
        ·intro u hu
         rcases List.mem_append.1 hu with hu | hu
         ·exact HP.out.2 u hu
         ·simp at hu;subst hu;exact hpt
       clear HP HTK HBJ hqn hpt
       have hown':IOwn (wr.alloc (.cells #[.int .i64 (n:Int)] 3)) w2.heap.size (.slice av us.length ac) (us.map fun q:Nat=>(q:Int)):=World.ownsRow.alloc hown _
       have HN2:Hid (∀i,i<([(n:Int)]:List Int).length→(wr.alloc (.cells #[.int .i64 (n:Int)] 3)).cell? ((⟨wr.heap.size,0,none⟩:Addr).add i)=some (.int .i64 (([(n:Int)]:List Int)[i]?.getD 0))):=fun i hi=>by
        have:i=0:=by simp at hi;omega
        subst this
        exact(Blk.new wr 3 #[.int .i64 (n:Int)]).cell 0
       have hsum:(us.map fun q:Nat=>(q:Int)).length+([(n:Int)]:List Int).length≤1099511627776:=by have:=HAJ.out;simp;omega
       have hsz2:w2.heap.size≤(wr.alloc (.cells #[.int .i64 (n:Int)] 3)).heap.size:=by simp;omega
       go_wp2_with fail
       refine hip.mono ?_
       rintro _ _ ⟨rfl,rfl⟩
       have hml:(us.map fun q:Nat=>(q:Int)).length=us.length:=List.length_map _
       go_wp2_with (first | (at_builtin;refine aaf rfl _ _ rfl w2.heap.size _ (us.map fun q:Nat=>(q:Int)) rfl hown' [(n:Int)] ⟨wr.heap.size,0,none⟩ _ rfl HN2.out hsum hsz2 ?_;intro a7 c7 w7 hown7 hgr7 hnil7 hat7;have hb7:Below w2.heap.size wr w7:=((Below.refl w2.heap.size wr).alloc hszr _).grown hgr7 hsz2 (fun i hi=>(aah hown' hi).1);have hm7:=hmr.below hb7 (by omega);have y0:w7.cell? ⟨w.heap.size+1,0,none⟩=some (.slice av us.length ac):=hm7.cell 0;have yz0:=hm7.frozen 0))
       have hlen1:(us++[n]).length=us.length+1:=by simp
       have hm8:Blk (w7.setCell ⟨w.heap.size+1,0,none⟩ (.slice a7 (us.length+1) c7)) (w.heap.size+1) 128 #[.slice a7 (us++[n]).length c7,.slice none 0 0]:=by
        rw[hlen1]
        exact hm7.set 0 _
       have hown8:IOwn (w7.setCell ⟨w.heap.size+1,0,none⟩ (.slice a7 (us.length+1) c7)) w2.heap.size (.slice a7 (us++[n]).length c7) ((us++[n]).map fun q:Nat=>(q:Int)):=by
        refine aan ?_ (show w.heap.size+1<w2.heap.size by omega) _
        have h9:=hown7
        rw[List.map_append,hlen1]
        unfold IOwn at h9
        rw[List.length_append,hml] at h9
        rw[List.length_append,hml]
        simpa using h9
       have hsz8:w2.heap.size≤(w7.setCell ⟨w.heap.size+1,0,none⟩ (.slice a7 (us.length+1) c7)).heap.size:=by
        have:=Nat.le_trans hszr hb7.size
        simpa[World.setCell] using this
       exact⟨⟨j+1,us++[n],a7,c7,by omega,by go_num,by rw[hlen1,HAJ.out],hm8,hown8,HP2,fun k hk hne=>(Below.heap_setCell _ ⟨w.heap.size+1,0,none⟩ _ k hne).trans ((hb7.block k hk).trans (hkp k hk hne)),(hbel.trans (hb7.mono (by omega))).setCell (show w.heap.size≤w.heap.size+1 by omega) _,hsz8⟩,by simp only[intOf];omega⟩
      | false=>
       rw[hpt] at hip
       have HF:Hid (ad9 s.data.toList=none):=entR_norow HCL.out (HBJ.out fun m hm e=>by
        have:n=m:=aed (hqn.symm.trans e)
        subst this
        rw[show acf (n:Int)=isPt (n:Int) from rfl,hpt] at hm
        cases hm)
       clear HP HTK HBJ hqn hpt
       go_wp2_with fail
       refine hip.mono ?_
       rintro _ _ ⟨rfl,rfl⟩
       go_wp2_with fail
       refine bodyPost_ret (abt (hrr.put2 _ _) rfl rfl) rfl ?_
       exact⟨aef hbel (Nat.le_refl _) _ _,_,_,_,_,_,_,false,rfl,.inr ⟨rfl,HF.out⟩⟩
     ·have HF:Hid (ad9 s.data.toList=none):=entR_norow HCL.out (HBJ.out fun m hm e=>by
       obtain⟨u,hu,hu2⟩:=ad0 hm
       have k6:(1114112:Nat)≤16^6:=by decide
       exact hq' m (by omega) e)
      clear HP HTK HBJ hq'
      go_wp2_with fail
      refine bodyPost_ret (abt (hrr.put2 _ _) rfl rfl) rfl ?_
      exact⟨aef hbel (Nat.le_refl _) _ _,_,_,_,_,_,_,false,rfl,.inr ⟨rfl,HF.out⟩⟩
    ·obtain rfl:j=k2:=by omega
     have HROW:Hid (rowR ta=some (us.map fun q:Nat=>(q:Int))):=HGOOD.out us (by rw[←HP.out.1,List.take_of_length_le (by rw[←HK5.out];exact Nat.le_refl _)]) (by rw[HAJ.out];omega) HP.out.2
     clear HP hcell HCS HBAD HGOOD HLONG
     have hkl:us.length≤8:=by have:=HAJ.out;omega
     have HPV:Aside (IOwn wr w2.heap.size (.slice av us.length ac) (us.map fun q:Nat=>(q:Int))):=hown
     generalize (us.map fun q:Nat=>(q:Int))=ps at HPV HROW
     clear hown
     go_wp2_with fail
     clear r0 r1 rz0 rz1 m0 m1 mz0 mz1
     obtain⟨wo,hwo⟩: ∃wo,wo=wr:=⟨_,rfl⟩
     subst hwo
     go_loopw [10,11,12] (fun rv _ _ wx=> ∃(acc:List El) (r:List UInt8) (ea:Option Addr) (ec:Nat),rv=.string (bsz r)∧Hid (tb=elsP acc++r∧ ∀e∈acc,wtE e)∧r.length≤65536∧acc.length≤65536∧Blk wx (w.heap.size+1) 128 #[.slice av us.length ac,.slice ea acc.length ec]∧Aside (EOwn wx wo.heap.size (.slice ea acc.length ec) acc)∧(∀k,k<wo.heap.size→k≠w.heap.size+1→wx.heap[k]? =wo.heap[k]?)∧Below w.heap.size w wx∧wo.heap.size≤wx.heap.size) (fun rv _ _ _=>strLen rv)
     case atStart=>exact⟨[],tb,none,0,rfl,⟨by simp[elsP],by simp⟩,hzb,by simp,hmr,EOwn.nil _ _,fun _ _ _=>rfl,hbel,Nat.le_refl _⟩
     case round=>
      obtain⟨acc,r,ea,ec,rfl,HT,hrl,hal,hmx,HE,hkx,hbx,hsx⟩:=hrel
      have hrx:Blk wr w.heap.size 128 #[.slice none 0 0,.slice none 0 0]:=(hkx _ (by omega) (by omega)).trans hrr
      obtain⟨r0,r1,rz0,rz1⟩:=ae6 hrx
      obtain⟨m0,m1,mz0,mz1⟩:=ae6 hmx
      by_cases hemp:r=[]
      ·subst hemp
       have HEND:=elsR_end (b:=tb) (acc:=acc) (by have:=HT.out.1;simpa using this) HT.out.2
       have HPX:IOwn wr w2.heap.size (.slice av us.length ac) ps:=own_block HPV.out (fun j hj=>by
        obtain⟨h1,cs',f,h2⟩:=aah HPV.out hj
        exact hkx j (Array.getElem?_eq_some_iff.1 h2).1 (by omega))
       have HF':Hid (¬(1≤acc.length∧acc.length≤16)→ad9 s.data.toList=none):=fun h=>entR_noels HCL.out (HEND.2 h)
       have HY':Hid (1≤acc.length∧acc.length≤16→ad9 s.data.toList=some (ps,acc)):=fun h=>entR_mk HCL.out HROW.out (HEND.1 h)
       clear HEND HT
       generalize acc.length=Ln at hmx m1 HE hal HF' HY'
       have hrp:=(show Blk wr.drew w.heap.size 128 #[.slice none 0 0,.slice none 0 0] from hrx).put2 (.slice av us.length ac) (.slice ea Ln ec)
       have hbp:=aef hbx.drew (Nat.le_refl w.heap.size) (.slice av us.length ac) (.slice ea Ln ec)
       have HPF:Hid (IOwn (put2 wr.drew w.heap.size (.slice av us.length ac) (.slice ea Ln ec)) w.heap.size (.slice av us.length ac) ps):=aae (aan (aan (show(wr.drew).ownsRow _ _ _ _ _ _ from HPX) (p:=⟨w.heap.size,0,none⟩) (show w.heap.size<w2.heap.size by omega) _) (p:=⟨w.heap.size,1,none⟩) (show w.heap.size<w2.heap.size by omega) _) (by omega)
       have HEF:Hid (EOwn (put2 wr.drew w.heap.size (.slice av us.length ac) (.slice ea Ln ec)) w.heap.size (.slice ea Ln ec) acc):=aae (aan (aan (show(wr.drew).ownsRow _ _ _ _ _ _ from HE.out) (p:=⟨w.heap.size,0,none⟩) (show w.heap.size<wo.heap.size by omega) _) (p:=⟨w.heap.size,1,none⟩) (show w.heap.size<wo.heap.size by omega) _) (by omega)
       clear HPX
       by_cases h1:1≤Ln
       ·by_cases h16:Ln≤16
        ·have d1:decide ((1:Int)≤(Ln:Int))=true:=by simp;omega
         have d2:decide ((Ln:Int)≤16)=true:=by simp;omega
         have HY:Hid _:=HY'.out ⟨h1,h16⟩
         clear HY' HF' h1 h16
         go_wp2_with fail
         go_region
         go_wp2_with fail
         refine bodyPost_ret (abt hrp rfl rfl) rfl ?_
         exact⟨hbp,_,_,_,_,_,_,true,rfl,.inl ⟨rfl,(ps,acc),HY.out,HPF.out,HEF.out⟩⟩
        ·have d1:decide ((1:Int)≤(Ln:Int))=true:=by simp;omega
         have d2:decide ((Ln:Int)≤16)=false:=by simp;omega
         have HF:Hid _:=HF'.out (fun h=>h16 h.2)
         clear HY' HF' h1 h16
         go_wp2_with fail
         go_region
         go_wp2_with fail
         refine bodyPost_ret (abt hrp rfl rfl) rfl ?_
         exact⟨hbp,_,_,_,_,_,_,false,rfl,.inr ⟨rfl,HF.out⟩⟩
       ·have d1:decide ((1:Int)≤(Ln:Int))=false:=by simp;omega
        have HF:Hid _:=HF'.out (fun h=>h1 h.1)
        clear HY' HF' h1
        go_wp2_with fail
        go_region
        go_wp2_with fail
        refine bodyPost_ret (abt hrp rfl rfl) rfl ?_
        exact⟨hbp,_,_,_,_,_,_,false,rfl,.inr ⟨rfl,HF.out⟩⟩
      ·have hemp':(bsz r).toList.isEmpty=false:=by rw[ByteArray.toList_eq];simpa using hemp
       have hemp2:r.isEmpty=false:=by simpa using hemp
       have hrd:=refRead_any (bsz r) (by rw[ab8];exact hrl) wr
       go_wp2_with fail
       refine hrd.mono ?_
       rintro _ w6 ⟨hb6,⟨va,pr,se,te⟩,b,rfl,hcase⟩
       have hb7:=(Below.refl w6.heap.size w6).alloc (Nat.le_refl _) (.cells #[.bool va,.int .i64 pr,.int .i64 se,.int .i64 te] 133)
       have hb67:=hb6.trans (hb7.mono hb6.size)
       have hr7:=hrx.below hb67 hrx.lt
       have hm7:=hmx.below hb67 hmx.lt
       have hbw7:=hbx.trans (hb67.mono hbx.size)
       have hE7:=Blk.new w6 133 #[.bool va,.int .i64 pr,.int .i64 se,.int .i64 te]
       have HE7:Aside (EOwn (w6.alloc (.cells #[.bool va,.int .i64 pr,.int .i64 se,.int .i64 te] 133)) wo.heap.size (.slice ea acc.length ec) acc):=aac HE.out hb67
       have hk7: ∀k,k<wo.heap.size→k≠w.heap.size+1→(w6.alloc (.cells #[.bool va,.int .i64 pr,.int .i64 se,.int .i64 te] 133)).heap[k]? =wo.heap[k]?:=fun k hk hne=>(hb67.block k (Nat.lt_of_lt_of_le hk hsx)).trans (hkx k hk hne)
       have hs7:wo.heap.size≤(w6.alloc (.cells #[.bool va,.int .i64 pr,.int .i64 se,.int .i64 te] 133)).heap.size:=Nat.le_trans hsx hb67.size
       have hcase':(b=true∧17≤r.length∧elR (r.take 17)=some ⟨va,pr,se,te⟩)∨(b=false∧ ∀e',17≤r.length→elR (r.take 17)≠some e'):=by simpa using hcase
       clear hcase hrd r0 r1 rz0 rz1 m0 m1 mz0 mz1 HE hkx hb6 hb67
       rcases hcase' with ⟨rfl,hl17,hel⟩ | ⟨rfl,hno⟩
       ·obtain⟨hT2,hwt⟩:=elsR_step HT.out.1 hl17 hel
        have HT2:Hid (tb=elsP (acc++[⟨va,pr,se,te⟩])++r.drop 17∧ ∀e∈acc++[⟨va,pr,se,te⟩],wtE e):=⟨hT2,fun e he=>by
         rcases List.mem_append.1 he with he | he
         ·exact HT.out.2 e he
         ·simp at he;subst he;exact hwt⟩
        clear hT2 hwt HT hel
        have HDL:Hid ((r.drop 17).length<r.length∧(r.drop 17).length≤65536):=⟨by rw[List.length_drop];omega,by rw[List.length_drop];omega⟩
        have hx1:Hid ((bsz r).extract 17 r.length=bsz (r.drop 17)):=by
         show _=_
         have e:(bsz r).data.toList=r:=by simp
         rw[adq,e,List.take_of_length_le (by rw[List.length_drop];exact Nat.le_refl _)]
        have hal2:Hid (acc.length+1≤65536):=by
         show _≤_
         have h1:=ae1 _ HT2.out.2
         have h2:=congrArg List.length HT2.out.1
         rw[List.length_append,h1,List.length_append] at h2
         simp only[List.length_cons,List.length_nil] at h2
         omega
        go_upto_region 20 with fail
        generalize w6.alloc (.cells #[.bool va,.int .i64 pr,.int .i64 se,.int .i64 te] 133)=w7 at*
        have hb8:=(Below.refl w7.heap.size w7).alloc (Nat.le_refl _) (.cells #[.bool va,.int .i64 pr,.int .i64 se,.int .i64 te] 133)
        have hm8:=hm7.below hb8 hm7.lt
        have hE8:=Blk.new w7 133 #[.bool va,.int .i64 pr,.int .i64 se,.int .i64 te]
        have HE8:Aside (EOwn (w7.alloc (.cells #[.bool va,.int .i64 pr,.int .i64 se,.int .i64 te] 133)) wo.heap.size (.slice ea acc.length ec) acc):=aac HE7.out hb8
        have HI8:Aside (Els (w7.alloc (.cells #[.bool va,.int .i64 pr,.int .i64 se,.int .i64 te] 133)).heap.size (w7.alloc (.cells #[.bool va,.int .i64 pr,.int .i64 se,.int .i64 te] 133)) (.slice (some ⟨w7.heap.size,0,none⟩) 1 1) [⟨va,pr,se,te⟩]):=.inr ⟨w7.heap.size,0,1,rfl,hE8.lt,fun j hj=>by
         obtain rfl:j=0:=by simpa using hj
         exact⟨hE8.cell 0,hE8.cell 1,hE8.cell 2,hE8.cell 3⟩⟩
        have hsum:acc.length+([⟨va,pr,se,te⟩]:List El).length≤4000000000000:=by simp;omega
        have hs8:wo.heap.size≤(w7.alloc (.cells #[.bool va,.int .i64 pr,.int .i64 se,.int .i64 te] 133)).heap.size:=Nat.le_trans hs7 hb8.size
        obtain⟨m0,m1,mz0,mz1⟩:=ae6 hm7
        have t0:w7.cell? ⟨w6.heap.size,0,none⟩=some (.bool va):=hE7.cell 0
        have t1:w7.cell? ⟨w6.heap.size,1,none⟩=some (.int .i64 pr):=hE7.cell 1
        have t2:w7.cell? ⟨w6.heap.size,2,none⟩=some (.int .i64 se):=hE7.cell 2
        have t3:w7.cell? ⟨w6.heap.size,3,none⟩=some (.int .i64 te):=hE7.cell 3
        have hhw:w.heap.size+1<wo.heap.size:=by omega
        go_wp2_with (first | (at_builtin;refine ack rfl _ _ rfl wo.heap.size _ acc rfl HE8.out [⟨va,pr,se,te⟩] _ _ rfl HI8.out hsum hs8 ?_;intro a9 c9 w9 hown9 hb9 hg9;have hm9:=hm8.below hb9 hhw;have y1:w9.cell? ⟨w.heap.size+1,1,none⟩=some (.slice ea acc.length ec):=hm9.cell 1;have yz1:=hm9.frozen 1))
        have hlen1:(acc++[⟨va,pr,se,te⟩]:List El).length=acc.length+1:=by simp
        have hm10:Blk (w9.setCell ⟨w.heap.size+1,1,none⟩ (.slice a9 (acc.length+1) c9)) (w.heap.size+1) 128 #[.slice av us.length ac,.slice a9 (acc++[⟨va,pr,se,te⟩]:List El).length c9]:=by
         rw[hlen1]
         exact hm9.set 1 _
        have HE10:Aside (EOwn (w9.setCell ⟨w.heap.size+1,1,none⟩ (.slice a9 (acc.length+1) c9)) wo.heap.size (.slice a9 (acc++[⟨va,pr,se,te⟩]:List El).length c9) (acc++[⟨va,pr,se,te⟩])):=by
         refine aan ?_ hhw _
         have h9:=hown9
         unfold EOwn at h9
         rw[hlen1] at h9⊢
         exact h9
        have hs10:wo.heap.size≤(w9.setCell ⟨w.heap.size+1,1,none⟩ (.slice a9 (acc.length+1) c9)).heap.size:=by
         have:=Nat.le_trans hs8 hb9.size
         simpa[World.setCell] using this
        have hb79:=hb8.mono (show wo.heap.size≤w7.heap.size from hs7)
        have hbf:Below w.heap.size w (w9.setCell ⟨w.heap.size+1,1,none⟩ (.slice a9 (acc.length+1) c9)):=((hbw7.trans (hb79.mono (by omega))).trans (hb9.mono (by omega))).setCell (show w.heap.size≤w.heap.size+1 by omega) _
        have hkf: ∀k,k<wo.heap.size→k≠w.heap.size+1→(w9.setCell ⟨w.heap.size+1,1,none⟩ (.slice a9 (acc.length+1) c9)).heap[k]? =wo.heap[k]?:=fun k hk hne=>(Below.heap_setCell _ ⟨w.heap.size+1,1,none⟩ _ k hne).trans (((hb9.block k hk).trans (hb79.block k hk)).trans (hk7 k hk hne))
        rw[hx1.out]
        exact⟨⟨acc++[⟨va,pr,se,te⟩],r.drop 17,a9,c9,rfl,HT2,HDL.out.2,by rw[hlen1];exact hal2.out,hm10,HE10,hkf,hbf,hs10⟩,by
         show(bsz (r.drop 17)).size<(bsz r).size
         rw[ab8,ab8]
         exact HDL.out.1⟩
       ·have HF:Hid (ad9 s.data.toList=none):=entR_noels HCL.out (elsR_bad HT.out.1 HT.out.2 hemp hno)
        clear HT hno
        obtain⟨r0,r1,rz0,rz1⟩:=ae6 hr7
        obtain⟨m0,m1,mz0,mz1⟩:=ae6 hm7
        go_wp2_with fail
        refine bodyPost_ret (abt (hr7.put2 _ _) rfl rfl) rfl ?_
        exact⟨aef hbw7 (Nat.le_refl _) _ _,_,_,_,_,_,_,false,rfl,.inr ⟨rfl,HF.out⟩⟩
 ·have HF:Hid (ad9 s.data.toList=none):=entR_not (by rw[←hk1];exact h3)
  have h3':((k1:Int) !=2)=true:=by simp;omega
  obtain⟨r0,r1,rz0,rz1⟩:=ae6 hr1
  obtain⟨m0,m1,mz0,mz1⟩:=ae6 hm1
  clear hk1 HSS
  go_wp2_with fail
  refine bodyPost_ret (abt (hr1.put2 _ _) rfl rfl) rfl ?_
  exact⟨aef hbw1 (Nat.le_refl _) _ _,_,_,_,_,_,_,false,rfl,.inr ⟨rfl,HF.out⟩⟩
set_option maxHeartbeats 2000000 in
set_option maxRecDepth 20000 in
theorem ahead_any (n₁ n₂:Nat)(va vb:Value)(a b:List Int)(w:World)(ha:Ints n₁ w va a)(hb:Ints n₂ w vb b)(hla:a.length≤4611686018427387904)(hlb:b.length≤4611686018427387904):
  Calls Tryz.prog 34 #[va,vb] w fun e w'=>e=.returned (.int .i64 (aat a b))∧ ∃n,w'=w.drewN n:=by
 obtain⟨aa,ca,rfl⟩:=ints_val ha
 obtain⟨ab,cb,rfl⟩:=ints_val hb
 generalize hR:aat a b=R
 have HR:Hid (aat (a.drop 0) (b.drop 0)=R):=hR
 clear hR
 go_enter Tryz.func34,Tryz.ntmps34
 go_wp2_with fail
 go_loopw [5] (fun i wr=> ∃k n:Nat,k≤a.length∧k≤b.length∧i=.int .i64 k∧Hid (aat (a.drop k) (b.drop k)=R)∧wr=w.drewN n) (fun i _=>a.length-(intOf i).toNat)
 case atStart=>exact⟨0,0,by omega,by omega,rfl,HR,rfl⟩
 case round=>
  clear HR
  obtain⟨k,nd,hk,hkb,rfl,HK,rfl⟩:=hrel
  by_cases hlt:k<a.length
  ·obtain⟨b1,o1,rfl,x1⟩:=ints_at ha hlt
   have hd1:a.drop k=a[k]::a.drop (k+1):=List.drop_eq_getElem_cons hlt
   by_cases hltb:k<b.length
   ·obtain⟨b2,o2,rfl,x2⟩:=ints_at hb hltb
    have hd2:b.drop k=b[k]::b.drop (k+1):=List.drop_eq_getElem_cons hltb
    have hKK:=HK.out
    rw[hd1,hd2] at hKK
    generalize a[k]=x at x1 hKK
    generalize b[k]=y at x2 hKK
    unfold aat at hKK
    clear HK hd1 hd2
    go_upto_region 4 with fail
    by_cases h1:x<y
    ·rw[if_pos h1] at hKK
     have HRn:Hid (R= -1):=hKK.symm
     clear hKK
     go_region
     go_wp2
     go_ret
     exact⟨by rw[HRn.out];rfl,nd+1,rfl⟩
    ·rw[if_neg h1] at hKK
     go_region
     go_upto_region 6 with fail
     by_cases h2:y<x
     ·rw[if_pos h2] at hKK
      have HRn:Hid (R=1):=hKK.symm
      clear hKK
      go_region
      go_wp2
      go_ret
      exact⟨by rw[HRn.out];rfl,nd+2,rfl⟩
     ·rw[if_neg h2] at hKK
      have HK2:Hid (aat (a.drop (k+1)) (b.drop (k+1))=R):=hKK
      clear hKK
      go_region
      go_wp2
      go_roundw
      case rel=>exact⟨k+1,nd+2,by omega,by omega,by simp,HK2,rfl⟩
      case measure=>simp only[intOf];omega
   ·have hRn:R=1:=by
     rw[←HK.out,hd1,show b.drop k=[] from List.drop_of_length_le (by omega)];rfl
    have hl1: ¬a.length<b.length:=by omega
    have hl2:b.length<a.length:=by omega
    clear HK hd1
    go_wp2
    go_ret
    exact⟨by rw[hRn];rfl,nd,rfl⟩
  ·by_cases hltb:k<b.length
   ·have hRn:R= -1:=by
     rw[←HK.out,show a.drop k=[] from List.drop_of_length_le (by omega),List.drop_eq_getElem_cons hltb];rfl
    have hl:a.length<b.length:=by omega
    clear HK
    go_wp2
    go_ret
    exact⟨by rw[hRn];rfl,nd,rfl⟩
   ·have hRn:R=0:=by
     rw[←HK.out,show a.drop k=[] from List.drop_of_length_le (by omega),show b.drop k=[] from List.drop_of_length_le (by omega)];rfl
    have hl: ¬a.length<b.length:=by omega
    have hl2: ¬b.length<a.length:=by omega
    clear HK
    go_wp2
    go_ret
    exact⟨by rw[hRn];rfl,nd,rfl⟩
def NIn (n₀:Nat)(w:World)(v:Value)(l:List Ent):Prop:=
 (∃a cap,v=.slice a 0 cap∧l=[])∨ ∃b off cap,v=.slice (some ⟨b,off,none⟩) l.length cap∧b<n₀∧ ∀j (hj:j<l.length),∃pv ev,w.cell? ⟨b,off+j*2,none⟩=some pv∧Ints n₀ w pv l[j].1∧w.cell? ⟨b,off+j*2+1,none⟩=some ev∧Els n₀ w ev l[j].2
theorem NIn.val {n₀:Nat}{w:World}{v:Value}{l:List Ent}(h:NIn n₀ w v l): ∃a cap,v=.slice a l.length cap:=by
 rcases h with ⟨a,cap,rfl,rfl⟩ | ⟨b,off,cap,rfl,_⟩
 ·exact⟨_,_,rfl⟩
 ·exact⟨_,_,rfl⟩
theorem NIn.below {n₀ n:Nat}{A B:World}{v:Value}{l:List Ent}(h:NIn n₀ A v l)(hb:Below n A B)(hn:n₀≤n):NIn n₀ B v l:=by
 rcases h with h | ⟨b,off,cap,e,hlt,hc⟩
 ·exact .inl h
 ·refine .inr ⟨b,off,cap,e,hlt,fun j hj=> ?_⟩
  obtain⟨pv,ev,h1,h2,h3,h4⟩:=hc j hj
  exact⟨pv,ev,(hb.cell (p:=⟨b,_,none⟩) (show b<n by omega)).trans h1,h2.below hb hn,(hb.cell (p:=⟨b,_,none⟩) (show b<n by omega)).trans h3,h4.below hb hn⟩
theorem NIn.mono {n₀ n:Nat}{A:World}{v:Value}{l:List Ent}(h:NIn n₀ A v l)(hn:n₀≤n):NIn n A v l:=by
 rcases h with h | ⟨b,off,cap,e,hlt,hc⟩
 ·exact .inl h
 ·refine .inr ⟨b,off,cap,e,Nat.lt_of_lt_of_le hlt hn,fun j hj=> ?_⟩
  obtain⟨pv,ev,h1,h2,h3,h4⟩:=hc j hj
  exact⟨pv,ev,h1,h2.mono hn,h3,h4.mono hn⟩
theorem NIn.at {n₀:Nat}{w:World}{a:Option Addr}{k cap:Nat}{l:List Ent}(h:NIn n₀ w (.slice a k cap) l){j:Nat}(hj:j<l.length): ∃b off pv,a=some ⟨b,off,none⟩∧w.cell? ⟨b,off+j*2,none⟩=some pv∧Ints n₀ w pv l[j].1:=by
 rcases h with ⟨a',cap',e,rfl⟩ | ⟨b,off,cap',e,hb,hc⟩
 ·simp at hj
 ·cases (Value.slice.inj e).1
  obtain⟨pv,ev,h1,h2,_⟩:=hc j hj
  exact⟨b,off,pv,rfl,h1,h2⟩
def RiseE (l:List Ent):Prop:=(l.map Prod.fst).Pairwise fun a b=>aat a b<0
theorem riseE_at {l:List Ent}(h:RiseE l){i j:Nat}(hi:i<l.length)(hj:j<l.length)(hij:i<j):aat (l[i]).1 (l[j]).1<0:=by
 have:=List.pairwise_iff_getElem.1 h i j (by simpa using hi) (by simpa using hj) hij
 simpa using this
structure PlaceE (l:List Ent)(p:List Int)(k:Nat):Prop where
 le:k≤l.length
 lo: ∀i (h:i<l.length),i<k→aat (l[i]).1 p<0
 hi: ∀i (h:i<l.length),k≤i→0≤aat (l[i]).1 p
def PlacePostE (l:List Ent)(p:List Int)(w:World)(e:Ending)(w':World):Prop:= ∃(k:Nat) (b:Bool),PlaceE l p k∧e=.returned (.tuple #[.int .i64 k,.bool b])∧((b=true∧ ∃h:k<l.length,(l[k]).1=p)∨(b=false∧ ∀i (h:i<l.length),(l[i]).1≠p))∧Below w.heap.size w w'
theorem ae2 {tmps:Array Value}{w:World}{a b:Value}(t2:tmps[4]?.getD undef=a)(t3:tmps[5]?.getD undef=b):(results Tryz.f55 tmps).run Tryz.prog w=.ok (.tuple #[a,b]) w:=by
 simp[results,Tryz.results55,go_sem,t2,t3]
set_option maxHeartbeats 4000000 in
set_option maxRecDepth 20000 in
theorem refPlaceE_any (l:List Ent)(hrise:RiseE l)(hll:l.length≤1048576)(hls: ∀e∈l,e.1.length≤4194304)(v pv:Value)(p:List Int)(hpl:p.length≤4194304)(n₀:Nat)(w:World)(hn₀:n₀≤w.heap.size)(hin:NIn n₀ w v l)(hp:Ints n₀ w pv p):
  Calls Tryz.prog 55 #[.agg #[v],pv] w fun e w'=>PlacePostE l p w e w':=by
 obtain⟨a,cap,rfl⟩:=hin.val
 have hb0:=(Below.refl w.heap.size w).alloc (Nat.le_refl _) (.cells #[.slice a l.length cap] 31)
 have hbn:=Blk.new w 31 #[.slice a l.length cap]
 have hin0:=hin.below hb0 hn₀
 have hp0:=hp.below hb0 hn₀
 go_enter Tryz.func55,Tryz.ntmps55
 go_upto_region 1 with fail
 generalize w.alloc (.cells #[.slice a l.length cap] 31)=W at hb0 hbn hin0 hp0⊢
 have e0:W.cell? ⟨w.heap.size,0,none⟩=some (.slice a l.length cap):=hbn.cell 0
 have HA:Hid (∀(i:Nat) (hi:i<l.length) (qv:Value) (n:Nat),Ints n₀ W qv (l[i]).1→Calls Tryz.prog 34 #[qv,pv] (W.drewN n) fun e w'=>e=.returned (.int .i64 (aat (l[i]).1 p))∧ ∃m,w'=(W.drewN n).drewN m):=fun i hi qv n hq=>by
  have:=hls _ (List.getElem_mem hi)
  exact ahead_any n₀ n₀ qv pv _ _ (W.drewN n) hq hp0 (by omega) (by omega)
 go_wp2_with fail
 go_loopw [6,7,8] (fun x y _ wr=> ∃(lo hi n:Nat),lo≤hi∧hi≤l.length∧x=.int .i64 lo∧y=.int .i64 hi∧Hid ((∀i (h:i<l.length),i<lo→aat (l[i]).1 p<0)∧(∀i (h:i<l.length),hi≤i→0≤aat (l[i]).1 p))∧wr=W.drewN n) (fun x y _ _=>(intOf y).toNat-(intOf x).toNat)
 case atStart=>exact⟨0,l.length,0,by omega,by omega,rfl,rfl,⟨fun i h h2=>absurd h2 (by omega),fun i h h2=>absurd h (by omega)⟩,rfl⟩
 case round=>
  obtain⟨lo,hi,nd,hle,hhi,rfl,rfl,HI,rfl⟩:=hrel
  by_cases hlt:lo<hi
  ·have hmid:(lo+hi)/2<l.length:=by omega
   obtain⟨b,off,qv,hao,c0,hq⟩:=hin0.at hmid
   subst hao
   have hcall:=HA.out _ hmid qv nd hq
   have HL:Hid (∀i (h:i<l.length),i<(lo+hi)/2+1→aat (l[i]).1 p<0∨ ¬aat (l[(lo+hi)/2]).1 p<0):=fun i h h2=>by
    by_cases hp:aat (l[(lo+hi)/2]).1 p<0
    ·left
     rcases Nat.lt_or_ge i ((lo+hi)/2) with h3 | h3
     ·exact aheadL_trans _ _ _ (riseE_at hrise h hmid h3) hp
     ·obtain rfl:i=(lo+hi)/2:=by omega
      exact hp
    ·right;exact hp
   have HH:Hid (∀i (h:i<l.length),(lo+hi)/2≤i→0≤aat (l[i]).1 p∨aat (l[(lo+hi)/2]).1 p<0):=fun i h h2=>by
    by_cases hp:aat (l[(lo+hi)/2]).1 p<0
    ·right;exact hp
    ·left
     rcases Nat.lt_or_ge ((lo+hi)/2) i with h3 | h3
     ·exact Int.not_lt.1 fun h4=>hp (aheadL_trans _ _ _ (riseE_at hrise hmid h h3) h4)
     ·obtain rfl:i=(lo+hi)/2:=by omega
      exact Int.not_lt.1 hp
   generalize aat (l[(lo+hi)/2]).1 p=pt at hcall HL HH
   have hm1:lo≤(lo+hi)/2∧(lo+hi)/2<hi:=by omega
   obtain⟨M,hM⟩: ∃M,(lo+hi)/2=M:=⟨_,rfl⟩
   have hMi:((lo:Int)+(hi:Int))/2=(M:Int):=by omega
   rw[hM] at c0 HL HH hm1 hmid
   clear hq
   by_cases hp:pt<0
   ·have HI2:Hid ((∀i (h:i<l.length),i<M+1→aat (l[i]).1 p<0)∧(∀i (h:i<l.length),hi≤i→0≤aat (l[i]).1 p)):=⟨fun i h h2=>(HL.out i h h2).resolve_right (by omega),HI.out.2⟩
    clear HI HL HH hM
    go_wp2_with fail
    refine hcall.mono ?_
    rintro _ w1 ⟨rfl,nm,rfl⟩
    go_wp2_with fail
    exact⟨⟨M+1,hi,nd+nm,by omega,by omega,by go_num,rfl,HI2,by simp⟩,by simp only[intOf];omega⟩
   ·have HI2:Hid ((∀i (h:i<l.length),i<lo→aat (l[i]).1 p<0)∧(∀i (h:i<l.length),M≤i→0≤aat (l[i]).1 p)):=⟨HI.out.1,fun i h h2=>(HH.out i h h2).resolve_right hp⟩
    clear HI HL HH hM
    go_wp2_with fail
    refine hcall.mono ?_
    rintro _ w1 ⟨rfl,nm,rfl⟩
    go_wp2_with fail
    exact⟨⟨lo,M,nd+nm,by omega,by omega,rfl,by first | rfl | exact congrArg (Value.int .i64) hMi,HI2,by simp⟩,by simp only[intOf];omega⟩
  ·obtain rfl:hi=lo:=by omega
   have HPA:Hid (PlaceE l p hi):=⟨hhi,HI.out.1,HI.out.2⟩
   clear HI
   by_cases hk:hi<l.length
   ·obtain⟨b,off,qv,hao,c0,hq⟩:=hin0.at hk
    subst hao
    have hcall:=HA.out _ hk qv nd hq
    obtain⟨pt,hpt⟩: ∃pt,aat (l[hi]).1 p=pt:=⟨_,rfl⟩
    have HPT:Hid (aat (l[hi]).1 p=pt):=hpt
    rw[hpt] at hcall
    clear hpt hq
    have d1:decide ((hi:Int)<(l.length:Int))=true:=by simp;omega
    by_cases hp:pt=0
    ·have d2:(pt==0)=true:=by simp[hp]
     have HY:Hid (∃h:hi<l.length,(l[hi]).1=p):=⟨hk,aheadL_zero _ _ (by rw[HPT.out,hp])⟩
     clear hp
     go_wp2_with fail
     refine hcall.mono ?_
     rintro _ w1 ⟨rfl,nm,rfl⟩
     go_wp2_with fail
     refine bodyPost_ret (ae2 rfl rfl) rfl ?_
     exact⟨hi,true,HPA.out,rfl,.inl ⟨rfl,HY.out⟩,hb0.trans (ab9 W _ _)⟩
    ·have d2:(pt==0)=false:=by simp[hp]
     have HN:Hid (∀i (h:i<l.length),(l[i]).1≠p):=fun i h e=>by
      rcases Nat.lt_or_ge i hi with h1 | h1
      ·have:=HPA.out.lo i h h1;rw[e,af5] at this;omega
      ·rcases Nat.lt_or_ge hi i with h2 | h2
       ·have h3:=riseE_at hrise hk h h2
        rw[e] at h3
        have:=HPA.out.hi hi hk (Nat.le_refl _);omega
       ·obtain rfl:i=hi:=by omega
        refine hp (HPT.out.symm.trans ?_)
        rw[e,af5]
     clear hp
     go_wp2_with fail
     refine hcall.mono ?_
     rintro _ w1 ⟨rfl,nm,rfl⟩
     go_wp2_with fail
     refine bodyPost_ret (ae2 rfl rfl) rfl ?_
     exact⟨hi,false,HPA.out,rfl,.inr ⟨rfl,HN.out⟩,hb0.trans (ab9 W _ _)⟩
   ·have d1:decide ((hi:Int)<(l.length:Int))=false:=by simp;omega
    have HN:Hid (∀i (h:i<l.length),(l[i]).1≠p):=fun i h e=>by
     have:=HPA.out.lo i h (by omega);rw[e,af5] at this;omega
    go_wp2_with fail
    refine bodyPost_ret (ae2 rfl rfl) rfl ?_
    exact⟨hi,false,HPA.out,rfl,.inr ⟨rfl,HN.out⟩,hb0.trans (ab9 W _ _)⟩
end Go.Proofs.YtpfkoldfbecdlaaGreatDoor
