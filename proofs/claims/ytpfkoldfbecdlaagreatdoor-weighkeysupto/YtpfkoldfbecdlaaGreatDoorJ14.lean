/- Contracts and lemmas (nothing is claimed here). -/
import Derived.Test.YtpfkoldfbecdlaaGreatDoorJ11
import Derived.Test.YtpfkoldfbecdlaaGreatDoorJ13
import Derived.Test.YtpfkoldfbecdlaaGreatDoorJ7
import Derived.OwnWalk
namespace Go.Proofs.YtpfkoldfbecdlaaGreatDoor
open Go.RowKit Go.Vf Go.Maps
theorem drop_rev {R:List Int}{j:Nat}(h:j<R.length):(R.drop (j+1)).reverse++[R[j]]=(R.drop j).reverse:=by
 rw[List.drop_eq_getElem_cons h,List.reverse_cons]
set_option maxHeartbeats 16000000 in
set_option maxRecDepth 20000 in
theorem rlevel_any (k:Nat)(hk:k<4){z:Int}(hz:z=(k:Int)+1)(sh back:Bool)(s:Int)(h3:k=3→sh=true){es:List El}(hE: ∀e∈es,VaOk e){n0:Nat}{v:Value}{w:World}(hv:Els n0 w v es)(hn0:n0≤w.heap.size)(hl:es.length≤1000000000000):
  Calls Tryz.prog 85 #[ag8 s sh back,v,.int .i64 z] w fun r w'=> ∃u,r=.returned u∧IOwn w' w.heap.size u (lev sh back k es)∧Below w.heap.size w w':=by
 obtain⟨va,vc,rfl⟩:=hv.val
 have HZ:Hid (z=(k:Int)+1):=hz
 clear hz
 have hb0:=(Below.refl w.heap.size w).alloc (Nat.le_refl _) (.cells #[.int .i64 s,.bool sh,.bool back] 44)
 have hB0:=colA_two s sh back w
 have hs0:Hid ((w.alloc (.cells #[.int .i64 s,.bool sh,.bool back] 44)).heap.size=w.heap.size+1):=by show _=_;simp
 have hv0:=hv.below hb0 hn0
 have hlR:=lvl_len sh k es false
 have hlev:lev sh back k es=if k=1∧back=true then (lvl sh k false es).reverse else lvl sh k false es:=rfl
 rw[hlev]
 have hsf:(sh&&false)=false:=by cases sh<;>rfl
 have hR0:lvl sh k (sh&&false) es=lvl sh k false es:=by rw[hsf]
 generalize lvl sh k false es=R at hR0 hlR⊢
 have HR:Hid ([]++lvl sh k (sh&&false) (es.drop 0)=R):=by show _=_;simpa using hR0
 generalize hq:(if k=1∧back=true then R.reverse else R)=RR
 have HQ:Hid ((if k=1∧back=true then R.reverse else R)=RR):=hq
 clear hR0 hlev hsf hq
 go_enter Tryz.func85,Tryz.ntmps85
 go_upto_region 1 with fail
 generalize w.alloc (.cells #[.int .i64 s,.bool sh,.bool back] 44)=w1 at*
 go_wp2_with fail
 go_loopw [7,8,9] (fun rv bv iv wr=> ∃(i:Nat) (acc:List Int) (b:Bool),i≤es.length∧iv=.int .i64 i∧bv=.bool b∧Aside (IOwn wr w1.heap.size rv acc)∧Hid (acc++lvl sh k (sh&&b) (es.drop i)=R)∧Hid (acc.length≤i∧ ∃a c,rv=.slice a acc.length c)∧Below w1.heap.size w1 wr) (fun _ _ iv _=>es.length-(intOf iv).toNat)
 case atStart=>exact⟨0,[],false,by omega,rfl,rfl,IOwn.nil _ _,HR,⟨by simp,_,_,rfl⟩,Below.refl _ _⟩
 case round=>
  clear HR
  obtain⟨i,acc,b,hi1,rfl,rfl,HO,HR,HA,hbr⟩:=hrel
  obtain⟨oa,oc,rfl⟩:=HA.out.2
  have hcb: ∀j,wr.cell? ⟨w.heap.size,j,none⟩=w1.cell? ⟨w.heap.size,j,none⟩:=fun j=>hbr.cell (p:=⟨w.heap.size,j,none⟩) (by have:=hs0.out;show w.heap.size<w1.heap.size;omega)
  have l1:wr.cell? ⟨w.heap.size,1,none⟩=some (.bool sh):=(hcb 1).trans (hB0.cell 1)
  have l2:wr.cell? ⟨w.heap.size,2,none⟩=some (.bool back):=(hcb 2).trans (hB0.cell 2)
  clear hcb
  by_cases hlt:i<es.length
  ·obtain⟨bk,off,rfl,x0,x1,x2,x3⟩: ∃b off,va=some ⟨b,off,none⟩∧wr.cell? ⟨b,off+i*4,none⟩=some (.bool es[i].va)∧wr.cell? ⟨b,off+i*4+1,none⟩=some (.int .i64 es[i].pr)∧wr.cell? ⟨b,off+i*4+2,none⟩=some (.int .i64 es[i].se)∧wr.cell? ⟨b,off+i*4+3,none⟩=some (.int .i64 es[i].te):=by
    rcases hv0 with ⟨_,_,_,e⟩ | ⟨b,off,c',e,hb,hc⟩
    ·rw[e] at hlt;simp at hlt
    ·cases e
     obtain⟨y0,y1,y2,y3⟩:=hc i hlt
     have hbw:b<w1.heap.size:=by have:=hs0.out;omega
     exact⟨b,off,rfl,(hbr.cell (p:=⟨b,_,none⟩) hbw).trans y0,(hbr.cell (p:=⟨b,_,none⟩) hbw).trans y1,(hbr.cell (p:=⟨b,_,none⟩) hbw).trans y2,(hbr.cell (p:=⟨b,_,none⟩) hbw).trans y3⟩
   have hdr:es.drop i=es[i]::es.drop (i+1):=List.drop_eq_getElem_cons hlt
   have hVe:=hE _ (List.getElem_mem hlt)
   have HRR:=HR.out
   rw[hdr] at HRR
   have HRQ:Hid (acc++(if wgt k es[i] (wipe sh (sh&&b) es[i])=0 then lvl sh k (wipe sh (sh&&b) es[i]) (es.drop (i+1)) else wgt k es[i] (wipe sh (sh&&b) es[i])::lvl sh k (wipe sh (sh&&b) es[i]) (es.drop (i+1)))=R):=HRR
   have hw3:k=3→es[i].va=true→wipe sh (sh&&b) es[i]=true:=fun h hva=>by
    rw[h3 h]
    unfold wipe
    rw[if_neg (hVe hva),hva]
    rfl
   have hcl:=fun W=>rweight_any k hk HZ.out es[i] (wipe sh (sh&&b) es[i]) hw3 W
   have hwq:wipe sh (sh&&b) es[i]=if es[i].pr=0 then (sh&&b) else (sh&&es[i].va):=rfl
   rw[hwq] at HRQ hcl
   generalize es[i]=e at x0 x1 x2 x3 HRQ hcl hVe
   clear HR HRR hdr hw3 hwq
   obtain⟨ev,ep,e2,e4⟩:=e
   cases sh with
   | false=>
    by_cases hp:ep=0
    ·have hp1:(ep !=0)=false:=by simp[hp]
     have hp2:(ep==0)=true:=by simp[hp]
     simp only[if_pos hp,Bool.false_and] at HRQ hcl
     clear hp
     go_wp2_with fail
     refine(hcl wr).mono ?_
     rintro r w4 ⟨rfl,hb4⟩
     have HO4:Aside (IOwn w4 w1.heap.size (.slice oa acc.length oc) acc):=aac HO.out hb4
     have hbr4:=hbr.trans (hb4.mono hbr.size)
     generalize wgt k ⟨ev,ep,e2,e4⟩ false=n at HRQ
     clear HO hbr hb4 x0 x1 x2 x3 hcl
     by_cases hn:n=0
     ·have hnt:(n !=0)=false:=by simp[hn]
      have HR2:Hid (acc++lvl false k (false&&b) (es.drop (i+1))=R):=by show _=_;rw[←HRQ.out,if_pos hn];rfl
      clear HRQ hn
      go_wp2_with fail
      go_roundw
      case rel=>exact⟨i+1,acc,b,by omega,by simp,rfl,HO4,HR2,⟨by have:=HA.out.1;omega,_,_,rfl⟩,hbr4⟩
      case measure=>simp only[intOf];omega
     ·have hnt:(n !=0)=true:=by simp[hn]
      have HR2:Hid ((acc++[n])++lvl false k (false&&b) (es.drop (i+1))=R):=by show _=_;rw[←HRQ.out,if_neg hn,List.append_assoc];rfl
      have hal:acc.length≤1099511627776:=by have:=HA.out.1;omega
      have hw1:w1.heap.size≤w4.heap.size:=hbr4.size
      clear HRQ hn
      go_wp2_with (at_builtin;refine aa9 rfl _ _ rfl w1.heap.size _ acc rfl HO4.out n 1 rfl hal hw1 w1.heap.size w1 hbr4 (Nat.le_refl _) ?_;intro v5 w5 hown5 hb5 hsz5 _)
      obtain⟨va5,vc5,rfl⟩:=hown5.val
      have HO5:Aside (IOwn w5 w1.heap.size (.slice va5 (acc++[n]).length vc5) (acc++[n])):=hown5
      clear hown5 HO4
      go_roundw
      case rel=>exact⟨i+1,acc++[n],b,by omega,by simp,rfl,HO5,HR2,⟨by have:=HA.out.1;simp;omega,_,_,rfl⟩,hb5⟩
      case measure=>simp only[intOf];omega
    ·have hp1:(ep !=0)=true:=by simp[hp]
     have hp2:(ep==0)=false:=by simp[hp]
     simp only[if_neg hp,Bool.false_and] at HRQ hcl
     clear hp
     go_wp2_with fail
     refine(hcl wr).mono ?_
     rintro r w4 ⟨rfl,hb4⟩
     have HO4:Aside (IOwn w4 w1.heap.size (.slice oa acc.length oc) acc):=aac HO.out hb4
     have hbr4:=hbr.trans (hb4.mono hbr.size)
     generalize wgt k ⟨ev,ep,e2,e4⟩ false=n at HRQ
     clear HO hbr hb4 x0 x1 x2 x3 hcl
     by_cases hn:n=0
     ·have hnt:(n !=0)=false:=by simp[hn]
      have HR2:Hid (acc++lvl false k (false&&ev) (es.drop (i+1))=R):=by show _=_;rw[←HRQ.out,if_pos hn];rfl
      clear HRQ hn
      go_wp2_with fail
      go_roundw
      case rel=>exact⟨i+1,acc,ev,by omega,by simp,rfl,HO4,HR2,⟨by have:=HA.out.1;omega,_,_,rfl⟩,hbr4⟩
      case measure=>simp only[intOf];omega
     ·have hnt:(n !=0)=true:=by simp[hn]
      have HR2:Hid ((acc++[n])++lvl false k (false&&ev) (es.drop (i+1))=R):=by show _=_;rw[←HRQ.out,if_neg hn,List.append_assoc];rfl
      have hal:acc.length≤1099511627776:=by have:=HA.out.1;omega
      have hw1:w1.heap.size≤w4.heap.size:=hbr4.size
      clear HRQ hn
      go_wp2_with (at_builtin;refine aa9 rfl _ _ rfl w1.heap.size _ acc rfl HO4.out n 1 rfl hal hw1 w1.heap.size w1 hbr4 (Nat.le_refl _) ?_;intro v5 w5 hown5 hb5 hsz5 _)
      obtain⟨va5,vc5,rfl⟩:=hown5.val
      have HO5:Aside (IOwn w5 w1.heap.size (.slice va5 (acc++[n]).length vc5) (acc++[n])):=hown5
      clear hown5 HO4
      go_roundw
      case rel=>exact⟨i+1,acc++[n],ev,by omega,by simp,rfl,HO5,HR2,⟨by have:=HA.out.1;simp;omega,_,_,rfl⟩,hb5⟩
      case measure=>simp only[intOf];omega
   | true=>
    cases ev with
    | true=>
     have hp:ep≠0:=hVe rfl
     have hp1:(ep !=0)=true:=by simp[hp]
     simp only[if_neg hp,Bool.true_and] at HRQ hcl
     clear hp
     go_wp2_with fail
     refine(hcl wr).mono ?_
     rintro r w4 ⟨rfl,hb4⟩
     have HO4:Aside (IOwn w4 w1.heap.size (.slice oa acc.length oc) acc):=aac HO.out hb4
     have hbr4:=hbr.trans (hb4.mono hbr.size)
     generalize wgt k ⟨true,ep,e2,e4⟩ true=n at HRQ
     clear HO hbr hb4 x0 x1 x2 x3 hcl
     by_cases hn:n=0
     ·have hnt:(n !=0)=false:=by simp[hn]
      have HR2:Hid (acc++lvl true k (true&&true) (es.drop (i+1))=R):=by show _=_;rw[←HRQ.out,if_pos hn];rfl
      clear HRQ hn
      go_wp2_with fail
      go_roundw
      case rel=>exact⟨i+1,acc,true,by omega,by simp,rfl,HO4,HR2,⟨by have:=HA.out.1;omega,_,_,rfl⟩,hbr4⟩
      case measure=>simp only[intOf];omega
     ·have hnt:(n !=0)=true:=by simp[hn]
      have HR2:Hid ((acc++[n])++lvl true k (true&&true) (es.drop (i+1))=R):=by show _=_;rw[←HRQ.out,if_neg hn,List.append_assoc];rfl
      have hal:acc.length≤1099511627776:=by have:=HA.out.1;omega
      have hw1:w1.heap.size≤w4.heap.size:=hbr4.size
      clear HRQ hn
      go_wp2_with (at_builtin;refine aa9 rfl _ _ rfl w1.heap.size _ acc rfl HO4.out n 1 rfl hal hw1 w1.heap.size w1 hbr4 (Nat.le_refl _) ?_;intro v5 w5 hown5 hb5 hsz5 _)
      obtain⟨va5,vc5,rfl⟩:=hown5.val
      have HO5:Aside (IOwn w5 w1.heap.size (.slice va5 (acc++[n]).length vc5) (acc++[n])):=hown5
      clear hown5 HO4
      go_roundw
      case rel=>exact⟨i+1,acc++[n],true,by omega,by simp,rfl,HO5,HR2,⟨by have:=HA.out.1;simp;omega,_,_,rfl⟩,hb5⟩
      case measure=>simp only[intOf];omega
    | false=>
     by_cases hp:ep=0
     ·have hp1:(ep !=0)=false:=by simp[hp]
      have hp2:(ep==0)=true:=by simp[hp]
      simp only[if_pos hp,Bool.true_and] at HRQ hcl
      clear hp
      go_wp2_with fail
      refine(hcl wr).mono ?_
      rintro r w4 ⟨rfl,hb4⟩
      have HO4:Aside (IOwn w4 w1.heap.size (.slice oa acc.length oc) acc):=aac HO.out hb4
      have hbr4:=hbr.trans (hb4.mono hbr.size)
      generalize wgt k ⟨false,ep,e2,e4⟩ b=n at HRQ
      clear HO hbr hb4 x0 x1 x2 x3 hcl
      by_cases hn:n=0
      ·have hnt:(n !=0)=false:=by simp[hn]
       have HR2:Hid (acc++lvl true k (true&&b) (es.drop (i+1))=R):=by show _=_;rw[←HRQ.out,if_pos hn];rfl
       clear HRQ hn
       go_wp2_with fail
       go_roundw
       case rel=>exact⟨i+1,acc,b,by omega,by simp,rfl,HO4,HR2,⟨by have:=HA.out.1;omega,_,_,rfl⟩,hbr4⟩
       case measure=>simp only[intOf];omega
      ·have hnt:(n !=0)=true:=by simp[hn]
       have HR2:Hid ((acc++[n])++lvl true k (true&&b) (es.drop (i+1))=R):=by show _=_;rw[←HRQ.out,if_neg hn,List.append_assoc];rfl
       have hal:acc.length≤1099511627776:=by have:=HA.out.1;omega
       have hw1:w1.heap.size≤w4.heap.size:=hbr4.size
       clear HRQ hn
       go_wp2_with (at_builtin;refine aa9 rfl _ _ rfl w1.heap.size _ acc rfl HO4.out n 1 rfl hal hw1 w1.heap.size w1 hbr4 (Nat.le_refl _) ?_;intro v5 w5 hown5 hb5 hsz5 _)
       obtain⟨va5,vc5,rfl⟩:=hown5.val
       have HO5:Aside (IOwn w5 w1.heap.size (.slice va5 (acc++[n]).length vc5) (acc++[n])):=hown5
       clear hown5 HO4
       go_roundw
       case rel=>exact⟨i+1,acc++[n],b,by omega,by simp,rfl,HO5,HR2,⟨by have:=HA.out.1;simp;omega,_,_,rfl⟩,hb5⟩
       case measure=>simp only[intOf];omega
     ·have hp1:(ep !=0)=true:=by simp[hp]
      have hp2:(ep==0)=false:=by simp[hp]
      simp only[if_neg hp,Bool.true_and] at HRQ hcl
      clear hp
      go_wp2_with fail
      refine(hcl wr).mono ?_
      rintro r w4 ⟨rfl,hb4⟩
      have HO4:Aside (IOwn w4 w1.heap.size (.slice oa acc.length oc) acc):=aac HO.out hb4
      have hbr4:=hbr.trans (hb4.mono hbr.size)
      generalize wgt k ⟨false,ep,e2,e4⟩ false=n at HRQ
      clear HO hbr hb4 x0 x1 x2 x3 hcl
      by_cases hn:n=0
      ·have hnt:(n !=0)=false:=by simp[hn]
       have HR2:Hid (acc++lvl true k (true&&false) (es.drop (i+1))=R):=by show _=_;rw[←HRQ.out,if_pos hn];rfl
       clear HRQ hn
       go_wp2_with fail
       go_roundw
       case rel=>exact⟨i+1,acc,false,by omega,by simp,rfl,HO4,HR2,⟨by have:=HA.out.1;omega,_,_,rfl⟩,hbr4⟩
       case measure=>simp only[intOf];omega
      ·have hnt:(n !=0)=true:=by simp[hn]
       have HR2:Hid ((acc++[n])++lvl true k (true&&false) (es.drop (i+1))=R):=by show _=_;rw[←HRQ.out,if_neg hn,List.append_assoc];rfl
       have hal:acc.length≤1099511627776:=by have:=HA.out.1;omega
       have hw1:w1.heap.size≤w4.heap.size:=hbr4.size
       clear HRQ hn
       go_wp2_with (at_builtin;refine aa9 rfl _ _ rfl w1.heap.size _ acc rfl HO4.out n 1 rfl hal hw1 w1.heap.size w1 hbr4 (Nat.le_refl _) ?_;intro v5 w5 hown5 hb5 hsz5 _)
       obtain⟨va5,vc5,rfl⟩:=hown5.val
       have HO5:Aside (IOwn w5 w1.heap.size (.slice va5 (acc++[n]).length vc5) (acc++[n])):=hown5
       clear hown5 HO4
       go_roundw
       case rel=>exact⟨i+1,acc++[n],false,by omega,by simp,rfl,HO5,HR2,⟨by have:=HA.out.1;simp;omega,_,_,rfl⟩,hb5⟩
       case measure=>simp only[intOf];omega
  ·have hRR:R=acc:=by rw[←HR.out,List.drop_of_length_le (by omega)];simp[lvl]
   clear HR
   subst hRR
   have hwl:w.heap.size≤w1.heap.size:=hb0.size
   have hb01:=hb0.trans (hbr.mono hwl)
   have hin:=HO.out.ints
   by_cases hk1:k=1
   ·have hz2:(z==2)=true:=by rw[HZ.out,hk1];rfl
    cases back with
    | false=>
     go_wp2_with fail
     go_ret
     refine⟨_,rfl,?_,hb01⟩
     rw[←HQ.out,if_neg (by simp)];exact aae HO.out hwl
    | true=>
     obtain⟨wo,hwo⟩: ∃wo,wo=wr:=⟨_,rfl⟩
     subst hwo
     have hRl:R.length≤1000000000000:=by have:=HA.out.1;omega
     have HIN:Aside (Ints wo.heap.size wo (.slice oa R.length oc) R):=hin
     generalize hrl:R.length=rl at*
     have HRL:Hid (R.length=rl):=hrl
     have hwr:Hid (w.heap.size≤wo.heap.size):=hb01.size
     have HB01:Aside (Below w.heap.size w wo):=hb01
     clear hrl hin HO hb01 hbr l1 hv0 hv HA hlR
     go_wp2_with fail
     go_loopw [12,13] (fun tv iv wr=> ∃(j:Nat),j≤rl∧iv=.int .i64 ((j:Int)-1)∧Aside (IOwn wr wo.heap.size tv (R.drop j).reverse)∧Hid (∃a c,tv=.slice a (R.drop j).reverse.length c)∧Below wo.heap.size wo wr) (fun _ iv _=>(intOf iv+1).toNat)
     case atStart=>exact⟨rl,Nat.le_refl _,by first | rfl | go_num,by rw[List.drop_of_length_le (by rw[HRL.out];exact Nat.le_refl _)];exact IOwn.nil _ _,⟨none,0,by rw[List.drop_of_length_le (by rw[HRL.out];exact Nat.le_refl _)];rfl⟩,Below.refl _ _⟩
     case round=>
      obtain⟨j,hj,rfl,HT,HV,hbx⟩:=hrel
      obtain⟨ta,tc,rfl⟩:=HV.out
      by_cases hj0:j=0
      ·subst hj0
       go_wp2_with fail
       go_ret
       refine⟨_,rfl,?_,HB01.out.trans (hbx.mono hwr.out)⟩
       rw[←HQ.out,if_pos (by first | exact⟨hk1,rfl⟩ | exact⟨hk1,trivial⟩)];exact aae HT.out hwr.out
      ·obtain⟨m,rfl⟩: ∃m,j=m+1:=⟨j-1,by omega⟩
       have hm:m<R.length:=by rw[HRL.out];omega
       obtain⟨b1,o1,rfl,y0⟩:=ints_at HIN.out hm
       have hb1:=World.block_lt_of_cell? _ _ y0
       have y1:=(hbx.cell (p:=⟨b1,o1+m,none⟩) hb1).trans y0
       have hdr:=drop_rev hm
       have hge:(0:Int)≤((m+1:Nat):Int)-1:=by omega
       have hjm:((m+1:Nat):Int)-1=(m:Int):=by omega
       rw[hjm]
       have hal:(R.drop (m+1)).reverse.length≤1099511627776:=by rw[List.length_reverse,List.length_drop,HRL.out];omega
       have hm0:(0:Int)≤(m:Int):=by omega
       generalize R[m]=x at y1 hdr
       have HDR:Hid ((R.drop (m+1)).reverse++[x]=(R.drop m).reverse):=hdr
       have hxs:=hbx.size
       generalize (R.drop (m+1)).reverse=T0 at HT HDR hal
       clear hdr hge hjm y0
       go_wp2_with (at_builtin;refine aa9 rfl _ _ rfl wo.heap.size _ T0 rfl HT.out x 1 rfl hal hxs wo.heap.size wo hbx (Nat.le_refl _) ?_;intro v5 w5 hown5 hb5 hsz5 _)
       rw[HDR.out] at hown5
       obtain⟨va5,vc5,rfl⟩:=hown5.val
       go_roundw
       case rel=>exact⟨m,by omega,by first | rfl | go_num,hown5,⟨_,_,rfl⟩,hb5⟩
       case measure=>simp only[intOf];omega
   ·have hz2:(z==2)=false:=by rw[HZ.out];simp;omega
    go_wp2_with fail
    go_ret
    refine⟨_,rfl,?_,hb01⟩
    rw[←HQ.out,if_neg (fun h=>hk1 h.1)];exact aae HO.out hwl
end Go.Proofs.YtpfkoldfbecdlaaGreatDoor
namespace Go.Vf
def aa5 (p:Int):List Int:=
 if (p-44032) % 28=0 then [4352+(p-44032)/588,4449+(p-44032) % 588/28]
 else [4352+(p-44032)/588,4449+(p-44032) % 588/28]++[4519+(p-44032) % 28]
def aao (E:Int→List Int)(p:Int):List Int:=if ab5 p then (aa5 p).flatMap (aal E) else aal E p
end Go.Vf
namespace Go.Proofs.YtpfkoldfbecdlaaGreatDoor
open Go.RowKit Go.Vf Go.Maps
set_option maxRecDepth 10000 in
theorem class_any (bd:Nat)(L:List Mk)(E:Int→List Int)(p:Int)(w:World)(hp:InI p)(hd:DataAt w bd L E):Calls Tryz.prog 136 #[.pointer (some ⟨bd,0,none⟩),.int .i64 p] w fun e w'=>e=.returned (.int .i64 (aaa L p))∧w=w':=by
 obtain⟨bm,n,pv,ev,hbd,hdd,_⟩:=hd
 obtain⟨a,k,cap,a2,k2,cap2,hl,_,_,hkA,_,_,_,hk2,_⟩:=hdd.look hp
 clear hkA hk2
 have hl':=hl w rfl
 have hf0:=field0 (aaa L p) (.slice a k cap) (.slice a2 k2 cap2)
 have b0:w.cell? ⟨bd,0,none⟩=some (.map (some bm)):=hbd.cell 0
 clear hl
 go_enter Tryz.func136,Tryz.ntmps136
 go_wp2
 go_ret
 exact⟨rfl,rfl⟩
theorem own_two (w:World)(a b:Int):IOwn (w.alloc (.cells #[.int .i64 a,.int .i64 b] 3)) w.heap.size (.slice (some ⟨w.heap.size,0,none⟩) 2 2) [a,b]:=
 ⟨by simp,.inr ⟨w.heap.size,2,#[.int .i64 a,.int .i64 b],rfl,Nat.le_refl _,heap_alloc_new w _,by simp,by unfold maxLen;omega,by simp,by simp⟩⟩
set_option maxHeartbeats 1000000 in
set_option maxRecDepth 10000 in
theorem letters_any (p:Int)(w:World)(hs:ab5 p=true):Calls Tryz.prog 212 #[.int .i64 p] w fun e w'=> ∃a k cap,e=.returned (.slice a k cap)∧IOwn w' w.heap.size (.slice a k cap) (aa5 p)∧Below w.heap.size w w':=by
 have hb:44032≤p∧p≤55203:=by simpa[ab5] using hs
 have h1:0≤p-44032:=by omega
 unfold aa5
 generalize hz:p-44032=z at h1
 have hzl:z≤11171:=by omega
 by_cases ht:z % 28=0
 ·rw[if_pos ht]
  go_enter Tryz.func212,Tryz.ntmps212
  go_wp2_with fail
  go_ret
  exact⟨_,_,_,rfl,own_two _ _ _,(Below.refl _ _).alloc (Nat.le_refl _) _⟩
 ·rw[if_neg ht]
  have hown:=own_two w (4352+z/588) (4449+z % 588/28)
  have hb1:=(Below.refl w.heap.size w).alloc (Nat.le_refl _) (.cells #[.int .i64 (4352+z/588),.int .i64 (4449+z % 588/28)] 3)
  generalize hW:w.alloc (.cells #[.int .i64 (4352+z/588),.int .i64 (4449+z % 588/28)] 3)=W at hown hb1
  have hl2: [4352+z/588,4449+z % 588/28].length+[4519+z % 28].length≤1099511627776:=by simp
  have hbs:w.heap.size≤(W.alloc (.cells #[.int .i64 (4519+z % 28)] 3)).heap.size:=by have:=hb1.size;simp;omega
  go_enter Tryz.func212,Tryz.ntmps212
  go_upto_region 5 with fail
  clear hW
  go_wp2_with (first | (at_builtin;refine aaf rfl _ _ rfl w.heap.size _ [4352+z/588,4449+z % 588/28] rfl (World.ownsRow.alloc hown _) [4519+z % 28] ⟨W.heap.size,0,none⟩ 1 rfl (cell_one _ W) hl2 hbs ?_;intro a4 c4 w4 hown4 hgr4 hnil4 hat4))
  go_ret
  refine⟨_,_,_,rfl,hown4,(hb1.alloc hb1.size _).grown hgr4 (by have:=hb1.size;simp;omega) (fun j hj=>(aah hown hj).1)⟩
theorem clone_any {n₀:Nat}(a:Option Addr)(k cap:Nat)(zs:List Int)(w:World)(h:Ints n₀ w (.slice a k cap) zs)(hl:zs.length≤131072):
  Calls Tryz.prog 60 #[.slice a k cap] w fun e w'=> ∃a' k' c',e=.returned (.slice a' k' c')∧IOwn w' w.heap.size (.slice a' k' c') zs∧Below w.heap.size w w':=by
 rcases h with ⟨a',cap',e,rfl⟩ | ⟨b,off,cap',e,_,hc⟩
 ·cases e
  cases a with
  | none=>
   refine(Tryz.slices_Clone_int_nil 0 cap w).mono ?_
   rintro e w' ⟨rfl,rfl⟩
   exact⟨_,_,_,rfl,IOwn.nil _ _,Below.refl _ _⟩
  | some ad=>
   refine(Tryz.slices_Clone_int_zero ad cap w).mono ?_
   rintro e w' ⟨v',rfl,ho,_,hb⟩
   have ho':IOwn w' w.heap.size v' []:=ho
   obtain⟨a',c',rfl⟩:=ho'.val
   exact⟨_,_,_,rfl,ho',hb⟩
 ·cases e
  refine(Tryz.slices_Clone_int b off zs.length cap zs w (Nat.le_refl _) (by omega) (fun j hj=>by rw[hc j hj];simp[List.getD])).mono ?_
  rintro e w' ⟨v',rfl,ho,_,hb⟩
  rw[List.take_length] at ho
  have ho':IOwn w' w.heap.size v' zs:=ho
  obtain⟨a',c',rfl⟩:=ho'.val
  exact⟨_,_,_,rfl,ho',hb⟩
theorem endsOf_data (bd:Nat)(L:List Mk)(E:Int→List Int)(p:Int)(w:World)(hp:InI p)(hd:DataAt w bd L E):
  Calls Tryz.prog 147 #[.pointer (some ⟨bd,0,none⟩),.int .i64 p] w fun e w'=> ∃b off cap,e=.returned (.slice (some ⟨b,off,none⟩) (aal E p).length cap)∧b<w'.heap.size∧(∀j,j<(aal E p).length→w'.cell? ⟨b,off+j,none⟩=some (.int .i64 ((aal E p)[j]?.getD 0)))∧Below w.heap.size w w':=by
 obtain⟨bm,n,pv,ev,hbd,hdd,_⟩:=hd
 exact endsOf_any bd bm n pv ev L E p w hp hbd hdd
theorem DataAt.elen {w:World}{bd:Nat}{L:List Mk}{E:Int→List Int}(h:DataAt w bd L E)(p:Int):(aal E p).length≤19∧0<(aal E p).length:=by
 obtain⟨bm,n,pv,ev,hbd,hdd,_⟩:=h
 exact endsOfF_len (hdd.elen p)
theorem afw {p:Int}(hs:ab5 p=true):(∀q∈aa5 p,InI q)∧(aa5 p).length≤3∧2≤(aa5 p).length:=by
 have hb:44032≤p∧p≤55203:=by simpa[ab5] using hs
 unfold aa5 InI
 split
 ·refine⟨fun q hq=> ?_,by simp,by simp⟩
  simp at hq
  omega
 ·refine⟨fun q hq=> ?_,by simp,by simp⟩
  simp at hq
  omega
set_option maxHeartbeats 4000000 in
set_option maxRecDepth 20000 in
theorem parts_any (bd:Nat)(L:List Mk)(E:Int→List Int)(p:Int)(w:World)(hp:InI p)(hd:DataAt w bd L E):
  Calls Tryz.prog 171 #[.pointer (some ⟨bd,0,none⟩),.int .i64 p] w fun e w'=> ∃a k cap,e=.returned (.slice a k cap)∧IOwn w' w.heap.size (.slice a k cap) (aao E p)∧Below w.heap.size w w':=by
 unfold aao
 cases hs:ab5 p with
 | false=>
  go_enter Tryz.func171,Tryz.ntmps171
  go_wp2_with fail
  refine(adu p w).mono ?_
  rw[hs]
  rintro e w1 ⟨rfl,rfl⟩
  go_wp2_with fail
  refine(endsOf_data bd L E p w hp hd).mono ?_
  rintro e w2 ⟨b2,o2,c2,rfl,hb2,hc2,hbel2⟩
  have hel:=hd.elen p
  go_wp2_with fail
  refine(clone_any (n₀:=w2.heap.size) _ _ _ (aal E p) w2 (.inr ⟨b2,o2,c2,rfl,hb2,hc2⟩) (by omega)).mono ?_
  rintro e w3 ⟨a3,k3,c3,rfl,hown3,hbel3⟩
  go_wp2
  go_ret
  exact⟨_,_,_,rfl,hown3.mono hbel2.size,hbel2.trans (hbel3.mono hbel2.size)⟩
 | true=>
  obtain⟨hLI,hL3,_⟩:=afw hs
  go_enter Tryz.func171,Tryz.ntmps171
  go_wp2_with fail
  refine(adu p w).mono ?_
  rw[hs]
  rintro e w1 ⟨rfl,rfl⟩
  go_wp2_with fail
  refine(letters_any p w hs).mono ?_
  rintro e w2 ⟨a2,k2,c2,rfl,hown2,hbel2⟩
  obtain⟨a',c',he⟩:=hown2.val
  simp only[Value.slice.injEq] at he
  obtain⟨rfl,hk2,rfl⟩:=he
  have HK2:Hid (k2=(aa5 p).length):=hk2
  have hk3:k2≤3:=by omega
  have hint2:=hown2.ints
  have hd2:=hd.below hbel2
  generalize hls:aa5 p=ls at HK2 hint2 hLI hL3 hown2
  simp only[]
  have HLS:Hid (aa5 p=ls):=hls
  clear hk2 hls
  go_wp2_with fail
  go_loopw [5,20] (fun v i wr=> ∃(k:Nat) (acc:List Int),k≤k2∧i=.int .i64 k∧IOwn wr w2.heap.size v acc∧acc.length≤19*k∧Hid (acc++(ls.drop k).flatMap (aal E)=ls.flatMap (aal E))∧Below w2.heap.size w2 wr) (fun _ i _=>k2-(intOf i).toNat)
  case atStart=>exact⟨0,[],by omega,rfl,IOwn.nil _ _,by simp,by show _=_;simp,Below.refl _ _⟩
  case round=>
   obtain⟨k,acc,hk,rfl,hown,hal,HK,hbel⟩:=hrel
   obtain⟨av,cv,rfl⟩:=hown.val
   by_cases hlt:k<k2
   ·have hltp:k<ls.length:=by rw[←HK2.out];exact hlt
    have hdr:ls.drop k=ls[k]::ls.drop (k+1):=List.drop_eq_getElem_cons hltp
    obtain⟨bp,op,hao,hnk,hblt,hcell⟩:=(hint2.below hbel (Nat.le_refl _)).cell (fun e=>by rw[e] at hltp;simp at hltp)
    have hcj:=hcell k hltp
    rw[show ls[k]?.getD 0=ls[k] by simp[List.getElem?_eq_getElem hltp]] at hcj
    have hqI:=hLI _ (List.getElem_mem hltp)
    have hKK:=HK.out
    rw[hdr,List.flatMap_cons,←List.append_assoc] at hKK
    have hdr2:=hd2.below hbel
    have hel:=hdr2.elen ls[k]
    generalize ls[k]=q at hcj hqI hKK hel
    subst hao
    clear hcell hdr HK hltp hnk
    go_wp2_with fail
    refine(endsOf_data bd L E q wr hqI hdr2).mono ?_
    rintro e w3 ⟨b3,o3,c3,rfl,hb3,hc3,hbel3⟩
    have hown3:=aac hown hbel3
    have hsz3:w2.heap.size≤w3.heap.size:=Nat.le_trans hbel.size hbel3.size
    have HC3:Hid (∀j,j<(aal E q).length→w3.cell? ((⟨b3,o3,none⟩:Addr).add j)=some (.int .i64 ((aal E q)[j]?.getD 0))):=fun j hj=>by
     rw[show (⟨b3,o3,none⟩:Addr).add j=⟨b3,o3+j,none⟩ by simp[Addr.add]];exact hc3 j hj
    have HKK:Hid ((acc++aal E q)++(ls.drop (k+1)).flatMap (aal E)=ls.flatMap (aal E)):=hKK
    clear hc3 hKK
    have HLA:Hid ((acc++aal E q).length=acc.length+(aal E q).length):=List.length_append
    generalize aal E q=en at HKK hel HC3 HLA⊢
    have hsum:acc.length+en.length≤1099511627776:=by omega
    go_wp2_with (first | (at_builtin;refine aaf rfl _ _ rfl w2.heap.size _ acc rfl hown3 en ⟨b3,o3,none⟩ _ rfl HC3.out hsum hsz3 ?_;intro a4 c4 w4 hown4 hgr4 hnil4 hat4))
    have hb4:Below w2.heap.size w3 w4:=(Below.refl _ w3).grown hgr4 hsz3 (fun j hj=>(aah hown3 hj).1)
    go_roundw
    case rel=>exact⟨k+1,acc++en,by omega,by simp,hown4,by rw[HLA.out];omega,HKK,(hbel.trans (hbel3.mono hbel.size)).trans hb4⟩
    case measure=>simp only[intOf];omega
   ·have HRR:Hid (acc=ls.flatMap (aal E)):=by
     show _=_
     have:=HK.out
     rw[List.drop_of_length_le (by rw[←HK2.out];omega)] at this
     simpa using this
    clear HK
    go_wp2_with fail
    go_ret
    rw[HLS.out,←HRR.out]
    exact⟨_,_,_,rfl,hown.mono hbel2.size,hbel2.trans (hbel.mono hbel2.size)⟩
def aa3 (E:Int→List Int)(l:List Int):List Int:=l.flatMap (aao E)
theorem DataAt.plen {w:World}{bd:Nat}{L:List Mk}{E:Int→List Int}(h:DataAt w bd L E)(p:Int):(aao E p).length≤57∧0<(aao E p).length:=by
 unfold aao
 cases hs:ab5 p with
 | false=>have:=h.elen p;simp;omega
 | true=>
  simp only[if_true]
  obtain⟨_,h3,h2⟩:=afw hs
  have: ∀ls:List Int,(ls.flatMap (aal E)).length≤19*ls.length∧ls.length≤(ls.flatMap (aal E)).length:=by
   intro ls
   induction ls with
   | nil=>simp
   | cons x r ih=>have:=h.elen x;simp only[List.flatMap_cons,List.length_append,List.length_cons];omega
  have:=this (aa5 p)
  omega
set_option maxHeartbeats 4000000 in
set_option maxRecDepth 20000 in
theorem decompose_any (bd:Nat)(L:List Mk)(E:Int→List Int)(a:Option Addr)(kp cap:Nat)(ps:List Int)(w:World)(hps: ∀q∈ps,InI q)(hd:DataAt w bd L E)(hin:Ints w.heap.size w (.slice a kp cap) ps)(hkp:kp=ps.length)(hkl:(aa3 E ps).length≤68719476736)(hkl2:kp≤68719476736):
  Calls Tryz.prog 134 #[.pointer (some ⟨bd,0,none⟩),.slice a kp cap] w fun e w'=> ∃g k' c',e=.returned (.slice (some ⟨g,0,none⟩) k' c')∧IOwn w' w.heap.size (.slice (some ⟨g,0,none⟩) k' c') (aa3 E ps)∧Below w.heap.size w w':=by
 generalize hR:aa3 E ps=R at hkl⊢
 have HR:Hid ([]++aa3 E ps=R):=hR
 have HKP:Hid (kp=ps.length):=hkp
 clear hR hkp
 obtain⟨i0,hi0,hz0,hsz0,hby0⟩:=info_parts info3
 have HI0:Hid (i0.bytes=8):=hby0
 clear hby0
 go_enter Tryz.func134,Tryz.ntmps134
 go_wp2_with (first | (at_make;refine wpList_make_own _ rfl _ _ 90 rfl w.heap.size 3 i0 (.int .i64 0) 1 Tryz.underlying90 hi0 hz0 hsz0 .i64 .i64 _ kp rfl rfl rfl (by rw[HI0.out];omega) (by unfold maxLen;omega) (Nat.le_refl _) ?_;intro w0 hown0 hgrow0))
 have hb0:Below w.heap.size w w0:=(Below.refl _ w).grown hgrow0 (Nat.le_refl _) (fun j hj=>by cases hj)
 have HOWN0:Aside (IOwn w0 w.heap.size (.slice (some ⟨w.heap.size,0,none⟩) 0 kp) []):=hown0
 clear hown0 hgrow0 hi0 hz0 hsz0 HI0
 go_wp2_with fail
 go_loopw [5,13] (fun v i wr=> ∃(k:Nat) (acc:List Int) (g kk cc:Nat),k≤kp∧i=.int .i64 k∧v=.slice (some ⟨g,0,none⟩) kk cc∧Aside (IOwn wr w.heap.size (.slice (some ⟨g,0,none⟩) kk cc) acc)∧Hid (acc++aa3 E (ps.drop k)=R)∧Below w.heap.size w wr) (fun _ i _=>kp-(intOf i).toNat)
 case atStart=>exact⟨0,[],w.heap.size,0,kp,by omega,rfl,rfl,HOWN0,by simpa using HR,hb0⟩
 case round=>
  clear HOWN0 hb0 HR
  obtain⟨k,acc,g,kk,cc,hk,rfl,rfl,HOWN,HK,hbel⟩:=hrel
  by_cases hlt:k<kp
  ·have hltp:k<ps.length:=by rw[←HKP.out];exact hlt
   have hdr:ps.drop k=ps[k]::ps.drop (k+1):=List.drop_eq_getElem_cons hltp
   obtain⟨bp,op,hao,hnk,hblt,hcell⟩:=(hin.below hbel (Nat.le_refl _)).cell (fun e=>by rw[e] at hltp;simp at hltp)
   have hcj:=hcell k hltp
   rw[show ps[k]?.getD 0=ps[k] by simp[List.getElem?_eq_getElem hltp]] at hcj
   have hqI:=hps _ (List.getElem_mem hltp)
   have hKK:=HK.out
   rw[hdr,show aa3 E (ps[k]::ps.drop (k+1))=aao E ps[k]++aa3 E (ps.drop (k+1)) from rfl,←List.append_assoc] at hKK
   generalize ps[k]=q at hcj hqI hKK
   subst hao
   have hddr:=hd.below hbel
   have HLK:Hid ((acc++aao E q).length≤R.length):=by show _≤_;rw[←hKK];exact(List.prefix_append _ _).length_le
   have HKK:Hid ((acc++aao E q)++aa3 E (ps.drop (k+1))=R):=hKK
   clear hcell hdr HK hKK hltp hnk
   go_wp2_with fail
   refine(parts_any bd L E q _ hqI hddr).mono ?_
   rintro e w3 ⟨a3,k3,c3,rfl,hown3p,hbel3⟩
   have hown3:=aac HOWN.out hbel3
   have hsz3:w.heap.size≤w3.heap.size:=Nat.le_trans hbel.size hbel3.size
   obtain⟨av,cv,hv⟩:=IOwn.val HOWN.out
   have hkk:kk=acc.length:=by simpa using (Value.slice.inj hv).2.1
   have hint3:=hown3p.ints
   obtain⟨av3,cv3,hv3⟩:=hown3p.val
   have hk3:k3=(aao E q).length:=by simpa using (Value.slice.inj hv3).2.1
   have hL1:(acc++aao E q).length≤R.length:=HLK.out
   rw[List.length_append] at hL1
   have hpos:=hddr.plen q
   generalize aao E q=en at HKK HLK hint3 hk3 hL1 hpos
   have hen:en≠ []:=fun e=>by rw[e] at hpos;simp at hpos
   ·obtain⟨b3,o3,hao3,hnk3,hblt3,hcell3⟩:=hint3.cell hen
    subst hao3 hk3 hkk
    have HC3:Hid (∀j,j<en.length→w3.cell? ((⟨b3,o3,none⟩:Addr).add j)=some (.int .i64 (en[j]?.getD 0))):=fun j hj=>by
     rw[show (⟨b3,o3,none⟩:Addr).add j=⟨b3,o3+j,none⟩ by simp[Addr.add]];exact hcell3 j hj
    have hsum:acc.length+en.length≤1099511627776:=by omega
    have HOWN3:Aside (IOwn w3 w.heap.size (.slice (some ⟨g,0,none⟩) acc.length cc) acc):=hown3
    clear hcell3 hint3 hown3p hv hv3 HOWN hown3 hen hnk3 HLK
    go_wp2_with (first | (at_builtin;refine aaf rfl _ _ rfl w.heap.size _ acc rfl HOWN3.out en ⟨b3,o3,none⟩ _ rfl HC3.out hsum hsz3 ?_;intro a4 c4 w4 hown4 hgr4 hnil4 hat4;obtain⟨g4,rfl,hg4,hcap4⟩:=hown4.some_of (by rw[List.length_append];omega)))
    have hb4:Below w.heap.size w3 w4:=(Below.refl _ w3).grown hgr4 hsz3 (fun j hj=>(aah HOWN3.out hj).1)
    have HOWN4:Aside (IOwn w4 w.heap.size (.slice (some ⟨g4,0,none⟩) (acc.length+en.length) c4) (acc++en)):=hown4
    clear hown4 hnil4 hat4 hcap4
    go_roundw
    case rel=>exact⟨k+1,acc++en,g4,acc.length+en.length,c4,by omega,by simp,by simp,HOWN4,HKK,(hbel.trans (hbel3.mono hbel.size)).trans hb4⟩
    case measure=>simp only[intOf];omega
  ·have hRR:R=acc:=by rw[←HK.out,List.drop_of_length_le (by rw[←HKP.out];omega)];simp[aa3]
   clear HK
   go_wp2_with fail
   go_ret
   rw[hRR]
   exact⟨_,_,_,rfl,HOWN.out,hbel⟩
end Go.Proofs.YtpfkoldfbecdlaaGreatDoor
