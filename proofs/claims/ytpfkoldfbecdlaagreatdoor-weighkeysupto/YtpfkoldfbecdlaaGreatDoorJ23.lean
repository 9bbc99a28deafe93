/- Contracts and lemmas (nothing is claimed here). -/
import Derived.Test.YtpfkoldfbecdlaaGreatDoorJ18
import Derived.Test.YtpfkoldfbecdlaaGreatDoorJ21
import Derived.Test.YtpfkoldfbecdlaaGreatDoorJ22
namespace Go.Proofs.YtpfkoldfbecdlaaGreatDoor
open Go.RowKit Go.Vf Go.Maps
theorem filter_snoc (p:Int→Bool)(zs:List Int)(i:Nat)(hi:i<zs.length):(zs.take (i+1)).filter p=(zs.take i).filter p++(if p zs[i] then [zs[i]] else []):=by
 rw[←List.take_append_getElem hi,List.filter_append]
 congr 1
 by_cases h:p zs[i]=true
 ·rw[if_pos h,List.filter_cons_of_pos h];rfl
 ·rw[if_neg h,List.filter_cons_of_neg h];rfl
def SortedPost (K:Int→Int)(zs:List Int)(w:World)(e:Ending)(w':World):Prop:= ∃a n c X,e=.returned (.slice a n c)∧IOwn w' w.heap.size (.slice a n c) X∧SortedK K X∧AlikeK K zs X∧X.length=zs.length∧Below w.heap.size w w'
set_option maxHeartbeats 8000000 in
set_option maxRecDepth 20000 in
theorem rsorted_load {t:List UInt8}{L:List Mk}{E:Int→List Int}(h:aav t=.ok (L,E)){da:Option Addr}{dn dc:Nat}(a:Option Addr)(kz cz:Nat)(zs:List Int)(w:World)(hin:MIn w.heap.size w (.slice da dn dc) (aap L))(hz:Ints w.heap.size w (.slice a kz cz) zs)(hkz:kz=zs.length)(hns: ∀x∈zs,aaa L x≠0)(hzl:kz≤1000000000):
  Calls Tryz.prog 141 #[.agg #[.slice da dn dc],.slice a kz cz] w fun e w'=>SortedPost (aaa L) zs w e w':=by
 have hb0:=(Below.refl w.heap.size w).alloc (Nat.le_refl _) (.cells #[.slice da dn dc] 28)
 have hn0:=Blk.new w 28 #[.slice da dn dc]
 have HIN:Aside (MIn w.heap.size w (.slice da dn dc) (aap L)):=hin
 have hI: ∀x∈zs,1≤aaa L x∧aaa L x≤254:=fun x hx=>by have:=afu h x;have:=hns x hx;omega
 have HL:Aside (aav t=.ok (L,E)):=h
 have HZ:Aside (Ints w.heap.size w (.slice a kz cz) zs):=hz
 have HKZ:Hid (kz=zs.length):=hkz
 have HI:Aside _:=hI
 clear h hz hkz hI hns hin
 go_enter Tryz.func141,Tryz.ntmps141
 go_upto_region 1 with fail
 generalize w.alloc (.cells #[.slice da dn dc] 28)=W at hb0 hn0⊢
 have HJ0:Aside (Blk W w.heap.size 28 #[.slice da dn dc]∧Below w.heap.size w W∧IOwn W w.heap.size (.slice none 0 0) (pick (aaa L) zs 0)):=⟨hn0,hb0,IOwn.nil _ _⟩
 clear hn0 hb0
 go_wp2_with fail
 go_loopg [5,6] 256 (fun g1 vo vc wr=> ∃(cN:Nat) (oa:Option Addr) (ok oc:Nat),vc=.int .i64 ((cN:Int)+1)∧vo=.slice oa ok oc∧cN≤254∧254-cN≤g1∧ok≤kz∧Aside (Blk wr w.heap.size 28 #[.slice da dn dc]∧Below w.heap.size w wr∧IOwn wr w.heap.size (.slice oa ok oc) (pick (aaa L) zs cN)))
 case atStart=>exact⟨0,none,0,0,by simp,rfl,by omega,by omega,by omega,HJ0⟩
 case round=>
  clear HJ0
  obtain⟨cN,oa,ok,oc,rfl,rfl,hc4,hg1,hok,HJ⟩:=hrel
  have hokl:ok=(pick (aaa L) zs cN).length:=by obtain⟨_,_,e⟩:=HJ.out.2.2.val;exact(Value.slice.inj e).2.1
  have hdone:(∀x∈zs,1≤aaa L x∧aaa L x≤cN)→SortedPost (aaa L) zs w (.returned (.slice oa ok oc)) wr:=fun hx=>by
   have hal:=pick_alike hx
   refine⟨oa,ok,oc,_,rfl,HJ.out.2.2,pick_sorted cN,hal,?_,HJ.out.2.1⟩
   rw[(pick_perm cN).length_eq,List.filter_eq_self.2 (fun x h'=>by simpa using hx x h')]
  have HDONE:Aside _:=hdone
  have HOK:Hid (ok=(pick (aaa L) zs cN).length):=hokl
  clear hdone hokl
  by_cases hfull:ok<kz
  ·by_cases hcl:cN<254
   ·have hclz:(cN:Int)+1≤254:=by omega
    have hfz:(ok:Int)<(kz:Int):=by omega
    have H0:Aside (Blk wr w.heap.size 28 #[.slice da dn dc]∧Below w.heap.size w wr∧IOwn wr w.heap.size (.slice oa ok oc) (pick (aaa L) zs cN++(zs.take 0).filter (fun x=>aaa L x==((cN+1:Nat):Int)))):=⟨HJ.out.1,HJ.out.2.1,by simpa using HJ.out.2.2⟩
    clear HDONE
    go_wp2_with fail
    go_loopg [5,7] kz (fun g2 vo vi wr=> ∃(i:Nat) (oa:Option Addr) (ok oc:Nat),vi=.int .i64 i∧vo=.slice oa ok oc∧i≤kz∧kz-i≤g2∧Aside (Blk wr w.heap.size 28 #[.slice da dn dc]∧Below w.heap.size w wr∧IOwn wr w.heap.size (.slice oa ok oc) (pick (aaa L) zs cN++(zs.take i).filter (fun x=>aaa L x==((cN+1:Nat):Int)))))
    case atStart=>exact⟨0,oa,ok,oc,rfl,rfl,Nat.zero_le _,by omega,H0⟩
    case round=>
     clear H0 HJ HOK
     obtain⟨i,ob,okb,obc,rfl,rfl,hik,hg2,HJ⟩:=hrel
     by_cases hil:i<kz
     ·have hilz:(i:Int)<(kz:Int):=by omega
      have hiz:i<zs.length:=by rw[←HKZ.out];exact hil
      obtain⟨bp,op,hao,hnk,hblt,hcell⟩:=(HZ.out.below HJ.out.2.1 (Nat.le_refl _)).cell (fun e=>by rw[e] at hiz;simp at hiz)
      have hcj:=hcell i hiz
      rw[show zs[i]?.getD 0=zs[i] by simp[List.getElem?_eq_getElem hiz]] at hcj
      have hfs:=filter_snoc (fun x=>aaa L x==((cN+1:Nat):Int)) zs i hiz
      have HFS:Hid ((zs.take (i+1)).filter (fun x=>aaa L x==((cN+1:Nat):Int))=(zs.take i).filter (fun x=>aaa L x==((cN+1:Nat):Int))++(if (aaa L zs[i]==((cN+1:Nat):Int))=true then [zs[i]] else [])):=hfs
      generalize zs[i]=q at hcj HFS
      subst hao
      have hbp:bp<wr.heap.size:=Nat.lt_of_lt_of_le hblt HJ.out.2.1.size
      have xr:wr.cell? ⟨w.heap.size,0,none⟩=some (.slice da dn dc):=HJ.out.1.cell 0
      have hbxl:=HJ.out.1.lt
      have s0:(wr.drew.cell? ⟨w.heap.size,0,none⟩=some (.slice da dn dc)∧wr.drew.cell? ⟨bp,op+i,none⟩=some (.int .i64 q))∧Below wr.heap.size wr wr.drew:=⟨⟨xr,hcj⟩,(Below.refl _ _).drew⟩
      have HKK:Hid (∀x y:World,((x.cell? ⟨w.heap.size,0,none⟩=some (.slice da dn dc)∧x.cell? ⟨bp,op+i,none⟩=some (.int .i64 q))∧Below wr.heap.size wr x)→Below wr.heap.size x y→((y.cell? ⟨w.heap.size,0,none⟩=some (.slice da dn dc)∧y.cell? ⟨bp,op+i,none⟩=some (.int .i64 q))∧Below wr.heap.size wr y)):=fun x y h1 h2=>
       ⟨⟨(h2.cell (p:=⟨w.heap.size,0,none⟩) hbxl).trans h1.1.1,(h2.cell (p:=⟨bp,op+i,none⟩) hbp).trans h1.1.2⟩,h1.2.trans h2⟩
      have HP1:Hid (∀x:World,((x.cell? ⟨w.heap.size,0,none⟩=some (.slice da dn dc)∧x.cell? ⟨bp,op+i,none⟩=some (.int .i64 q))∧Below wr.heap.size wr x)→Calls Tryz.prog 75 #[.agg #[.slice da dn dc],.int .i64 q] x fun e w'=>e=.returned (.int .i64 (aaa L q))∧Below x.heap.size x w'):=fun x hx=>afn HL.out q (MIn.up (Nat.le_trans HJ.out.2.1.size hx.2.size) (HIN.out.below (HJ.out.2.1.trans (hx.2.mono HJ.out.2.1.size)) (Nat.le_refl _)))
      generalize hkq:aaa L q=kq at HP1 HFS
      have HKQ:Hid (aaa L q=kq):=hkq
      clear hcell xr hnk hiz hfs hkq
      go_upto_region 8 with fail
      go_cut [32] from 19 to 39 (fun v wx=>v=.bool (kq==(cN:Int)+1)∧Aside (Below wr.heap.size wr wx))
      case first=>
       go_region_held (fun x=>(x.cell? ⟨w.heap.size,0,none⟩=some (.slice da dn dc)∧x.cell? ⟨bp,op+i,none⟩=some (.int .i64 q))∧Below wr.heap.size wr x) (first | exact s0 | assumption | exact HKK.out _ _ (by assumption) (ace (by assumption) (by assumption))) ((go_at_call 75;refine(HP1.out _ (by assumption)).mono ?_;rintro e w3 ⟨rfl,hb3⟩))
       all_goals go_wp2_with fail
       all_goals go_meet
       case rel=>exact⟨rfl,And.right (by assumption)⟩
      case rest=>
       obtain⟨rfl,HBW⟩:=hcut
       have hcj2:wc.cell? ⟨bp,op+i,none⟩=some (.int .i64 q):=(HBW.out.cell (p:=⟨bp,op+i,none⟩) hbp).trans hcj
       have hown2:IOwn wc w.heap.size (.slice ob okb obc) (pick (aaa L) zs cN++(zs.take i).filter (fun x=>aaa L x==((cN+1:Nat):Int))):=aac HJ.out.2.2 HBW.out
       have HJ2:Aside (Blk wc w.heap.size 28 #[.slice da dn dc]∧Below w.heap.size w wc∧IOwn wc w.heap.size (.slice ob okb obc) (pick (aaa L) zs cN++(zs.take i).filter (fun x=>aaa L x==((cN+1:Nat):Int)))):=⟨HJ.out.1.below HBW.out HJ.out.1.lt,HJ.out.2.1.trans (HBW.out.mono HJ.out.2.1.size),hown2⟩
       clear s0 HKK HP1 HJ hown2 hcj
       cases hb:(kq==(cN:Int)+1) with
       | false=>
        have HJ3:Aside (Blk wc w.heap.size 28 #[.slice da dn dc]∧Below w.heap.size w wc∧IOwn wc w.heap.size (.slice ob okb obc) (pick (aaa L) zs cN++(zs.take (i+1)).filter (fun x=>aaa L x==((cN+1:Nat):Int)))):=by
         have e:=HFS.out
         rw[show (kq==((cN+1:Nat):Int))=false from hb] at e
         simp only[Bool.false_eq_true,if_false,List.append_nil] at e
         rw[e]
         exact HJ2
        clear HJ2 HFS
        go_wp2
        go_roundg (kz-(i+1))
        case measure=>omega
        case rel=>exact⟨i+1,ob,okb,obc,by first | rfl | go_num,rfl,by omega,Nat.le_refl _,HJ3⟩
       | true=>
        have e2:(zs.take (i+1)).filter (fun x=>aaa L x==((cN+1:Nat):Int))=(zs.take i).filter (fun x=>aaa L x==((cN+1:Nat):Int))++[q]:=by
         have e:=HFS.out
         rw[show (kq==((cN+1:Nat):Int))=true from hb] at e
         simpa using e
        have HE2:Hid (pick (aaa L) zs cN++(zs.take (i+1)).filter (fun x=>aaa L x==((cN+1:Nat):Int))=(pick (aaa L) zs cN++(zs.take i).filter (fun x=>aaa L x==((cN+1:Nat):Int)))++[q]):=by show _=_;rw[e2,List.append_assoc]
        have hll:(pick (aaa L) zs cN++(zs.take i).filter (fun x=>aaa L x==((cN+1:Nat):Int))).length≤2000000000:=by
         have h1:=pick_len (cls:=aaa L) (l:=zs) (c:=cN)
         have h2:=List.length_filter_le (fun x=>aaa L x==((cN+1:Nat):Int)) (zs.take i)
         rw[List.length_take] at h2
         rw[List.length_append]
         have h3:=HKZ.out
         omega
        generalize pick (aaa L) zs cN++(zs.take i).filter (fun x=>aaa L x==((cN+1:Nat):Int))=Z at HJ2 HE2 hll
        have hbA:=(Below.refl wc.heap.size wc).alloc (Nat.le_refl _) (.cells #[.int .i64 q] 3)
        have hnA:=Blk.new wc 3 #[.int .i64 q]
        have hcA: ∀u,u< [q].length→(wc.alloc (.cells #[.int .i64 q] 3)).cell? ((⟨wc.heap.size,0,none⟩:Addr).add u)=some (.int .i64 ([q][u]?.getD 0)):=fun u hu=>by
         obtain rfl:u=0:=by simpa using hu
         rw[Go.WideShapes.add_plain]
         exact hnA.cell 0
        have HOA:Aside (IOwn (wc.alloc (.cells #[.int .i64 q] 3)) w.heap.size (.slice ob okb obc) Z):=aac HJ2.out.2.2 hbA
        have HBA:Aside (Blk (wc.alloc (.cells #[.int .i64 q] 3)) w.heap.size 28 #[.slice da dn dc]∧Below w.heap.size w (wc.alloc (.cells #[.int .i64 q] 3))):=⟨HJ2.out.1.below hbA HJ2.out.1.lt,HJ2.out.2.1.trans (hbA.mono HJ2.out.2.1.size)⟩
        have HCA:Aside _:=hcA
        have hpl:Z.length+[q].length≤1099511627776:=by simp;omega
        have hbzA:=HBA.out.2.size
        have hokb:okb=Z.length:=by obtain⟨_,_,e⟩:=HJ2.out.2.2.val;exact(Value.slice.inj e).2.1
        have HOKB:Hid (okb=Z.length):=hokb
        clear hbA hnA hcA HJ2 hb HFS e2 hokb
        go_wp2_with (first | (at_builtin;refine aaf rfl _ _ rfl w.heap.size _ Z rfl HOA.out [q] ⟨wc.heap.size,0,none⟩ _ rfl HCA.out hpl hbzA ?_;intro a8 c8 w8 hown8 hgr8 hnil8 hat8))
        have HJ4:Aside (Blk w8 w.heap.size 28 #[.slice da dn dc]∧Below w.heap.size w w8∧IOwn w8 w.heap.size (.slice a8 (Z.length+[q].length) c8) (pick (aaa L) zs cN++(zs.take (i+1)).filter (fun x=>aaa L x==((cN+1:Nat):Int)))):=⟨ad3 HBA.out.1 HOA.out (by decide) hgr8,HBA.out.2.grown hgr8 hbzA (fun k hk=>(aah HOA.out hk).1),by rw[HE2.out];exact hown8⟩
        clear hown8 hgr8 hnil8 hat8 HOA HBA HCA HE2
        go_roundg (kz-(i+1))
        case measure=>omega
        case rel=>exact⟨i+1,a8,Z.length+[q].length,c8,by first | rfl | go_num,by first | rfl | simp,by omega,Nat.le_refl _,HJ4⟩
     ·have hilz: ¬(i:Int)<(kz:Int):=by omega
      have e1:pick (aaa L) zs cN++(zs.take i).filter (fun x=>aaa L x==((cN+1:Nat):Int))=pick (aaa L) zs (cN+1):=by
       rw[List.take_of_length_le (by rw[←HKZ.out];omega)];rfl
      have HJ2:Aside (Blk wr w.heap.size 28 #[.slice da dn dc]∧Below w.heap.size w wr∧IOwn wr w.heap.size (.slice ob okb obc) (pick (aaa L) zs (cN+1))):=by rw[←e1];exact HJ
      have hokb:okb≤kz:=by
       obtain⟨_,_,e⟩:=HJ2.out.2.2.val
       have:=(Value.slice.inj e).2.1
       rw[this,HKZ.out]
       exact pick_len
      clear e1 HJ
      go_wp2_with fail
      go_roundg (254-(cN+1))
      case measure=>omega
      case rel=>exact⟨cN+1,ob,okb,obc,by first | rfl | go_num | (congr 1),rfl,by omega,Nat.le_refl _,hokb,HJ2⟩
   ·have hclz: ¬(cN:Int)+1≤254:=by omega
    have hfin:=HDONE.out (fun x hx=>by have:=HI.out x hx;omega)
    clear HDONE
    go_wp2_with fail
    go_ret
    exact hfin
  ·have hfz: ¬(ok:Int)<(kz:Int):=by omega
   have hfin:=HDONE.out (pick_full (by rw[←HOK.out,←HKZ.out];omega))
   clear HDONE
   by_cases hcl:cN<254
   ·have hclz:(cN:Int)+1≤254:=by omega
    go_wp2_with fail
    go_ret
    exact hfin
   ·have hclz: ¬(cN:Int)+1≤254:=by omega
    go_wp2_with fail
    go_ret
    exact hfin
end Go.Proofs.YtpfkoldfbecdlaaGreatDoor
namespace Go.Vf
structure FormB (cls:Int→Int)(pts out row:List Int)(i:Nat):Prop where
 al:Alike0 cls (pts.take i) (out++row)
 co:CO cls out
 last: ∀x,out.getLast? =some x→cls x=0
 non: ∀x∈row,cls x≠0
 len:out.length+row.length=i
theorem FormB.start {cls:Int→Int}{pts:List Int}:FormB cls pts [] [] 0:=⟨by rw[List.take_zero];exact Alike0.refl _,trivial,fun x h=>by simp at h,by simp,rfl⟩
theorem FormB.more {cls:Int→Int}{pts out row:List Int}{i:Nat}(h:FormB cls pts out row i)(hi:i<pts.length)(hx:cls pts[i]≠0):FormB cls pts out (row++[pts[i]]) (i+1) where
 al:=by
  rw[←List.take_append_getElem hi,←List.append_assoc]
  exact Alike0.append h.al (Alike0.refl _)
 co:=h.co
 last:=h.last
 non:=fun x hx'=>by
  rcases List.mem_append.1 hx' with h' | h'
  ·exact h.non x h'
  ·rw[List.mem_singleton] at h';rw[h'];exact hx
 len:=by have:=h.len;simp;omega
theorem FormB.co2 {cls:Int→Int}(hc0: ∀x,0≤cls x){pts out row X:List Int}{i:Nat}(h:FormB cls pts out row i)(hs:SortedK cls X):CO cls (out++X):=
 CO.append h.co hs.co (fun x y hx _ _=>by rw[h.last x hx];exact hc0 y)
theorem FormB.starter {cls:Int→Int}(hc0: ∀x,0≤cls x){pts out row X:List Int}{i:Nat}(h:FormB cls pts out row i)(hi:i<pts.length)(hx:cls pts[i]=0)(hs:SortedK cls X)(ha:AlikeK cls row X)(hl:X.length=row.length):FormB cls pts (out++X++[pts[i]]) [] (i+1) where
 al:=by
  rw[←List.take_append_getElem hi,List.append_nil]
  exact Alike0.append (h.al.trans (Alike0.append (Alike0.refl _) (ha.alike0 h.non))) (Alike0.refl _)
 co:=CO.append (h.co2 hc0 hs) trivial (fun x y _ hy h0=>by
  simp only[List.head?_cons,Option.some.injEq] at hy
  rw[←hy] at h0
  exact absurd hx h0)
 last:=fun x h'=>by
  simp only[List.getLast?_append,List.getLast?_singleton,Option.some_or,Option.some.injEq] at h'
  rw[←h'];exact hx
 non:=by simp
 len:=by have:=h.len;simp;omega
theorem FormB.done {cls:Int→Int}(hc0: ∀x,0≤cls x){pts out row X:List Int}{i:Nat}(h:FormB cls pts out row i)(hi:pts.length≤i)(hs:SortedK cls X)(ha:AlikeK cls row X):FormOf cls pts (out++X):=by
 refine⟨h.co2 hc0 hs,?_⟩
 have:=h.al
 rw[List.take_of_length_le hi] at this
 exact this.trans (Alike0.append (Alike0.refl _) (ha.alike0 h.non))
end Go.Vf
namespace Go.Proofs.YtpfkoldfbecdlaaGreatDoor
open Go.RowKit Go.Vf Go.Maps
structure O3 (w:World)(bv:Value)(va vo vr:Value)(la lo lr:List Int)(wr:World):Prop where
 box:Blk wr w.heap.size 28 #[bv]
 below:Below w.heap.size w wr
 all:IOwn wr w.heap.size va la
 out:IOwn wr w.heap.size vo lo
 row:IOwn wr w.heap.size vr lr
 oa:Apt vo va
 ra:Apt vr va
 or:Apt vo vr
section
variable {w:World}{bv va vo vr:Value}{la lo lr:List Int}{wr:World}
theorem O3.go (h:O3 w bv va vo vr la lo lr wr){w':World}(hb:Below wr.heap.size wr w'):O3 w bv va vo vr la lo lr w':=
 ⟨h.box.below hb h.box.lt,h.below.trans (hb.mono h.below.size),aac h.all hb,aac h.out hb,aac h.row hb,h.oa,h.ra,h.or⟩
theorem O3.goOut (h:O3 w bv va vo vr la lo lr wr){w':World}{vo':Value}{lo':List Int}(hg:wr.grownBy w' vo.ownBlock)(ho:IOwn w' w.heap.size vo' lo')(hat:vo'.ownBlock=vo.ownBlock∨vo'.ownBlock=some wr.heap.size):O3 w bv va vo' vr la lo' lr w' where
 box:=ad3 h.box h.out (by decide) hg
 below:=h.below.grown hg h.below.size (fun k hk=>(aah h.out hk).1)
 all:=aa0 h.all hg h.oa
 out:=ho
 row:=aa0 h.row hg h.or
 oa:=fun g hg1 hg2=>by
  rcases hat with e | e
  ·exact h.oa g (e.symm.trans hg1) hg2
  ·rw[e] at hg1;have:=ag6 h.all hg2;simp at hg1;omega
 ra:=h.ra
 or:=fun g hg1 hg2=>by
  rcases hat with e | e
  ·exact h.or g (e.symm.trans hg1) hg2
  ·rw[e] at hg1;have:=ag6 h.row hg2;simp at hg1;omega
theorem O3.goRow (h:O3 w bv va vo vr la lo lr wr){w':World}{vr':Value}{lr':List Int}(hg:wr.grownBy w' vr.ownBlock)(ho:IOwn w' w.heap.size vr' lr')(hat:vr'.ownBlock=vr.ownBlock∨vr'.ownBlock=some wr.heap.size):O3 w bv va vo vr' la lo lr' w' where
 box:=ad3 h.box h.row (by decide) hg
 below:=h.below.grown hg h.below.size (fun k hk=>(aah h.row hk).1)
 all:=aa0 h.all hg h.ra
 out:=aa0 h.out hg h.or.symm
 row:=ho
 oa:=h.oa
 ra:=fun g hg1 hg2=>by
  rcases hat with e | e
  ·exact h.ra g (e.symm.trans hg1) hg2
  ·rw[e] at hg1;have:=ag6 h.all hg2;simp at hg1;omega
 or:=fun g hg1 hg2=>by
  rcases hat with e | e
  ·exact h.or g hg1 (e.symm.trans hg2)
  ·rw[e] at hg2;have:=ag6 h.out hg1;simp at hg2;omega
theorem O3.row0 (h:O3 w bv va vo vr la lo lr wr):O3 w bv va vo (.slice none 0 0) la lo [] wr:=
 ⟨h.box,h.below,h.all,h.out,IOwn.nil _ _,h.oa,fun g hg=>by simp[Value.ownBlock] at hg,fun g _ hg=>by simp[Value.ownBlock] at hg⟩
end
def RFormPost (L:List Mk)(E:Int→List Int)(ps:List Int)(w:World)(e:Ending)(w':World):Prop:= ∃a n c X,e=.returned (.slice a n c)∧IOwn w' w.heap.size (.slice a n c) X∧FormOf (aaa L) (aa3 E ps) X∧Below w.heap.size w w'
set_option maxHeartbeats 16000000 in
set_option maxRecDepth 20000 in
theorem rform_load {t:List UInt8}{L:List Mk}{E:Int→List Int}(h:aav t=.ok (L,E)){da:Option Addr}{dn dc:Nat}(a:Option Addr)(kz cz:Nat)(zs:List Int)(w:World)(hin:MIn w.heap.size w (.slice da dn dc) (aap L))(hz:Numb w a kz cz zs)(h57: ∀q,(aao E q).length≤57∧0<(aao E q).length)(hzl:zs.length≤2097152):
  Calls Tryz.prog 93 #[.agg #[.slice da dn dc],.slice a kz cz] w fun e w'=>RFormPost L E zs w e w':=by
 have hb0:=(Below.refl w.heap.size w).alloc (Nat.le_refl _) (.cells #[.slice da dn dc] 28)
 have hn0:=Blk.new w 28 #[.slice da dn dc]
 have HL:Aside (aav t=.ok (L,E)):=h
 have HIN:Aside (MIn w.heap.size w (.slice da dn dc) (aap L)):=hin
 have HZ:Aside (Ints w.heap.size w (.slice a kz cz) zs):=hz.ints
 have HKZ:Hid (kz=zs.length):=hz.len
 have H57:Aside (∀q,(aao E q).length≤57∧0<(aao E q).length):=h57
 have hfl:(aa3 E zs).length≤57*zs.length:=by
  clear hz HZ HKZ hzl
  induction zs with
  | nil=>simp[aa3]
  | cons x r ih=>have:=h57 x;rw[show aa3 E (x::r)=aao E x++aa3 E r from rfl,List.length_append,List.length_cons];omega
 have hkz:kz≤2097152:=by rw[hz.len];exact hzl
 clear h hz hin h57
 obtain⟨pts,hpts⟩: ∃pts,pts=aa3 E zs:=⟨_,rfl⟩
 have HPT:Hid (pts=aa3 E zs):=hpts
 have hpl:pts.length≤120000000:=by rw[hpts];omega
 have HR0:Hid ([]++aa3 E (zs.drop 0)=pts):=by rw[hpts];rfl
 clear hpts hfl
 go_enter Tryz.func93,Tryz.ntmps93
 go_upto_region 1 with fail
 generalize w.alloc (.cells #[.slice da dn dc] 28)=W at hb0 hn0⊢
 have HJ0:Aside (Blk W w.heap.size 28 #[.slice da dn dc]∧Below w.heap.size w W∧IOwn W w.heap.size (.slice none 0 0) []):=⟨hn0,hb0,IOwn.nil _ _⟩
 clear hn0 hb0
 go_wp2_with fail
 go_loopg [5,8] kz (fun g1 va vi wr=> ∃(i:Nat) (aa:Option Addr) (ak ac:Nat) (acc:List Int),vi=.int .i64 i∧va=.slice aa ak ac∧i≤kz∧kz-i≤g1∧Aside (Blk wr w.heap.size 28 #[.slice da dn dc]∧Below w.heap.size w wr∧IOwn wr w.heap.size (.slice aa ak ac) acc)∧Hid (acc++aa3 E (zs.drop i)=pts))
 case atStart=>exact⟨0,none,0,0,[],rfl,rfl,Nat.zero_le _,by omega,HJ0,HR0⟩
 case round=>
  clear HJ0 HR0
  obtain⟨i,aa,ak,ac,acc,rfl,rfl,hik,hg1,HJ,HR⟩:=hrel
  by_cases hil:i<kz
  ·have hilz:(i:Int)<(kz:Int):=by omega
   have hiz:i<zs.length:=by rw[←HKZ.out];exact hil
   obtain⟨bp,op,hao,hnk,hblt,hcell⟩:=(HZ.out.below HJ.out.2.1 (Nat.le_refl _)).cell (fun e=>by rw[e] at hiz;simp at hiz)
   have hcj:=hcell i hiz
   rw[show zs[i]?.getD 0=zs[i] by simp[List.getElem?_eq_getElem hiz]] at hcj
   have HR2:Hid ((acc++aao E zs[i])++aa3 E (zs.drop (i+1))=pts):=by
    show _=_
    rw[←HR.out,List.drop_eq_getElem_cons hiz,show aa3 E (zs[i]::zs.drop (i+1))=aao E zs[i]++aa3 E (zs.drop (i+1)) from rfl,List.append_assoc]
   generalize zs[i]=q at hcj HR2
   subst hao
   have hbp:bp<wr.heap.size:=Nat.lt_of_lt_of_le hblt HJ.out.2.1.size
   have xr:wr.cell? ⟨w.heap.size,0,none⟩=some (.slice da dn dc):=HJ.out.1.cell 0
   have hbxl:=HJ.out.1.lt
   have s0:(wr.drew.cell? ⟨w.heap.size,0,none⟩=some (.slice da dn dc)∧wr.drew.cell? ⟨bp,op+i,none⟩=some (.int .i64 q))∧Below wr.heap.size wr wr.drew:=⟨⟨xr,hcj⟩,(Below.refl _ _).drew⟩
   have HKK:Hid (∀x y:World,((x.cell? ⟨w.heap.size,0,none⟩=some (.slice da dn dc)∧x.cell? ⟨bp,op+i,none⟩=some (.int .i64 q))∧Below wr.heap.size wr x)→Below wr.heap.size x y→((y.cell? ⟨w.heap.size,0,none⟩=some (.slice da dn dc)∧y.cell? ⟨bp,op+i,none⟩=some (.int .i64 q))∧Below wr.heap.size wr y)):=fun x y h1 h2=>
    ⟨⟨(h2.cell (p:=⟨w.heap.size,0,none⟩) hbxl).trans h1.1.1,(h2.cell (p:=⟨bp,op+i,none⟩) hbp).trans h1.1.2⟩,h1.2.trans h2⟩
   have HP1:Hid (∀x:World,((x.cell? ⟨w.heap.size,0,none⟩=some (.slice da dn dc)∧x.cell? ⟨bp,op+i,none⟩=some (.int .i64 q))∧Below wr.heap.size wr x)→Calls Tryz.prog 74 #[.agg #[.slice da dn dc],.int .i64 q] x fun e w'=> ∃a n c,e=.returned (.slice a n c)∧IOwn w' x.heap.size (.slice a n c) (aao E q)∧Below x.heap.size x w'):=fun x hx=>rparts_load HL.out q (H57.out q).1 (MIn.up (Nat.le_trans HJ.out.2.1.size hx.2.size) (HIN.out.below (HJ.out.2.1.trans (hx.2.mono HJ.out.2.1.size)) (Nat.le_refl _)))
   clear hcell xr hnk hiz hcj HR
   go_upto_region 5 with fail
   go_cut [9] from 13 to 27 (fun v wx=> ∃a3 n3 c3,v=.slice a3 n3 c3∧Aside (Ints wx.heap.size wx (.slice a3 n3 c3) (aao E q)∧Below wr.heap.size wr wx))
   case first=>
    go_region_held (fun x=>(x.cell? ⟨w.heap.size,0,none⟩=some (.slice da dn dc)∧x.cell? ⟨bp,op+i,none⟩=some (.int .i64 q))∧Below wr.heap.size wr x) (first | exact s0 | assumption | exact HKK.out _ _ (by assumption) (ace (by assumption) (by assumption))) ((go_at_call 74;refine(HP1.out _ (by assumption)).mono ?_;rintro e w3 ⟨a3,n3,c3,rfl,ho3,hb3⟩))
    all_goals go_wp2_with fail
    all_goals go_meet
    case rel=>exact⟨a3,n3,c3,rfl,ho3.ints,And.right (by assumption)⟩
   case rest=>
    obtain⟨a3,n3,c3,rfl,HI3⟩:=hcut
    have HOW:Aside (IOwn wc w.heap.size (.slice aa ak ac) acc):=aac HJ.out.2.2 HI3.out.2
    have HBX:Aside (Blk wc w.heap.size 28 #[.slice da dn dc]∧Below w.heap.size w wc):=⟨HJ.out.1.below HI3.out.2 HJ.out.1.lt,HJ.out.2.1.trans (HI3.out.2.mono HJ.out.2.1.size)⟩
    have hlen:acc.length+(aao E q).length≤1099511627776:=by
     have:=congrArg List.length HR2.out
     rw[List.length_append,List.length_append] at this
     omega
    have hsz:=HBX.out.2.size
    clear s0 HKK HP1 HJ
    go_wp2_with (first | (at_builtin;refine abl rfl _ _ rfl w.heap.size _ acc rfl HOW.out (aao E q) wc.heap.size _ rfl HI3.out.1 hlen hsz ?_;intro a4 c4 w4 hown4 hbel4 hgr4 hat4))
    have HJ4:Aside (Blk w4 w.heap.size 28 #[.slice da dn dc]∧Below w.heap.size w w4∧IOwn w4 w.heap.size (.slice a4 (acc.length+(aao E q).length) c4) (acc++aao E q)):=⟨ad3 HBX.out.1 HOW.out (by decide) hgr4,HBX.out.2.trans hbel4,hown4⟩
    clear hown4 hbel4 hgr4 hat4 HOW HBX HI3
    go_roundg (kz-(i+1))
    case measure=>omega
    case rel=>exact⟨i+1,a4,_,c4,acc++aao E q,by first | rfl | go_num,rfl,by omega,Nat.le_refl _,HJ4,HR2⟩
  ·have hilz: ¬(i:Int)<(kz:Int):=by omega
   have hacc:acc=pts:=by
    have:=HR.out
    rw[List.drop_of_length_le (by rw[←HKZ.out];omega)] at this
    simpa[aa3] using this
   subst hacc
   have hak:ak=acc.length:=by obtain⟨_,_,e⟩:=HJ.out.2.2.val;exact(Value.slice.inj e).2.1
   have HAK:Hid (ak=acc.length):=hak
   have hakl:ak≤120000000:=by omega
   have HC0:Aside (∀p,0≤aaa L p):=fun p=>(afu HL.out p).1
   have HO0:Aside (O3 w (.slice da dn dc) (.slice aa ak ac) (.slice none 0 0) (.slice none 0 0) acc [] [] wr):=⟨HJ.out.1,HJ.out.2.1,HJ.out.2.2,IOwn.nil _ _,IOwn.nil _ _,fun g hg=>by simp[Value.ownBlock] at hg,fun g hg=>by simp[Value.ownBlock] at hg,fun g hg=>by simp[Value.ownBlock] at hg⟩
   have HF0:Hid (FormB (aaa L) acc [] [] 0):=FormB.start
   clear HJ HR hak hik hg1
   go_wp2_with fail
   go_loopg [6,7,10] ak (fun g2 vo vr vi wr=> ∃(i:Nat) (oa:Option Addr) (ok oc:Nat) (ra:Option Addr) (rk rc:Nat) (out row:List Int),vi=.int .i64 i∧vo=.slice oa ok oc∧vr=.slice ra rk rc∧i≤ak∧ak-i≤g2∧Aside (O3 w (.slice da dn dc) (.slice aa ak ac) (.slice oa ok oc) (.slice ra rk rc) acc out row wr)∧Hid (FormB (aaa L) acc out row i))
   case atStart=>exact⟨0,none,0,0,none,0,0,[],[],rfl,rfl,rfl,Nat.zero_le _,by omega,HO0,HF0⟩
   case round=>
    clear HO0 HF0
    obtain⟨i,oa,ok,oc,ra,rk,rc,out,row,rfl,rfl,rfl,hia,hg2,HO,HF⟩:=hrel
    have hrk:rk=row.length:=by obtain⟨_,_,e⟩:=HO.out.row.val;exact(Value.slice.inj e).2.1
    have hok:ok=out.length:=by obtain⟨_,_,e⟩:=HO.out.out.val;exact(Value.slice.inj e).2.1
    have HRK:Hid (rk=row.length∧ok=out.length):=⟨hrk,hok⟩
    have hsum:=HF.out.len
    have hb1:row.length≤120000000:=by omega
    have hb2:out.length≤120000000:=by omega
    have xr:wr.cell? ⟨w.heap.size,0,none⟩=some (.slice da dn dc):=HO.out.box.cell 0
    clear hrk hok hsum
    by_cases hil2:i<ak
    ·have hil2z:(i:Int)<(ak:Int):=by omega
     have hia2:i<acc.length:=by rw[←HAK.out];exact hil2
     obtain⟨ga,ea,hga,hcj⟩: ∃ga,aa=some ⟨ga,0,none⟩∧ga<wr.heap.size∧wr.cell? ⟨ga,i,none⟩=some (.int .i64 acc[i]):=by
      rcases HO.out.all.form with ⟨_,e⟩ | ⟨g,cap,e,_,hlt,_,hc,_⟩
      ·rw[e] at hia2;simp at hia2
      ·refine⟨g,(Value.slice.inj e).1,hlt,?_⟩
       rw[hc i hia2]
       simp[List.getElem?_eq_getElem hia2]
     have HMORE:Hid (aaa L acc[i]≠0→FormB (aaa L) acc out (row++[acc[i]]) (i+1)):=fun h0=>HF.out.more hia2 h0
     have HSTA:Hid (aaa L acc[i]=0→ ∀X,SortedK (aaa L) X→AlikeK (aaa L) row X→X.length=row.length→FormB (aaa L) acc (out++X++[acc[i]]) [] (i+1)):=fun h0 X h1 h2 h3=>HF.out.starter HC0.out hia2 h0 h1 h2 h3
     have HQ:Hid (acc[i]? =some acc[i]):=List.getElem?_eq_getElem hia2
     generalize acc[i]=q at hcj HMORE HSTA HQ
     subst ea
     have hbxl:=HO.out.box.lt
     have s0:(wr.drew.cell? ⟨w.heap.size,0,none⟩=some (.slice da dn dc)∧wr.drew.cell? ⟨ga,i,none⟩=some (.int .i64 q))∧Below wr.heap.size wr wr.drew:=⟨⟨xr,hcj⟩,(Below.refl _ _).drew⟩
     have HKK:Hid (∀x y:World,((x.cell? ⟨w.heap.size,0,none⟩=some (.slice da dn dc)∧x.cell? ⟨ga,i,none⟩=some (.int .i64 q))∧Below wr.heap.size wr x)→Below wr.heap.size x y→((y.cell? ⟨w.heap.size,0,none⟩=some (.slice da dn dc)∧y.cell? ⟨ga,i,none⟩=some (.int .i64 q))∧Below wr.heap.size wr y)):=fun x y h1 h2=>
      ⟨⟨(h2.cell (p:=⟨w.heap.size,0,none⟩) hbxl).trans h1.1.1,(h2.cell (p:=⟨ga,i,none⟩) hga).trans h1.1.2⟩,h1.2.trans h2⟩
     have HP1:Hid (∀x:World,((x.cell? ⟨w.heap.size,0,none⟩=some (.slice da dn dc)∧x.cell? ⟨ga,i,none⟩=some (.int .i64 q))∧Below wr.heap.size wr x)→Calls Tryz.prog 75 #[.agg #[.slice da dn dc],.int .i64 q] x fun e w'=>e=.returned (.int .i64 (aaa L q))∧Below x.heap.size x w'):=fun x hx=>afn HL.out q (MIn.up (Nat.le_trans HO.out.below.size hx.2.size) (HIN.out.below (HO.out.below.trans (hx.2.mono HO.out.below.size)) (Nat.le_refl _)))
     have hk0:=HC0.out q
     generalize aaa L q=kq at HP1 HMORE HSTA hk0
     clear xr hia2
     go_upto_region 10 with fail
     go_cut [40] from 28 to 60 (fun v wx=>v=.bool (decide ((0:Int)<kq))∧Aside (Below wr.heap.size wr wx))
     case first=>
      go_region_held (fun x=>(x.cell? ⟨w.heap.size,0,none⟩=some (.slice da dn dc)∧x.cell? ⟨ga,i,none⟩=some (.int .i64 q))∧Below wr.heap.size wr x) (first | exact s0 | assumption | exact HKK.out _ _ (by assumption) (ace (by assumption) (by assumption))) ((go_at_call 75;refine(HP1.out _ (by assumption)).mono ?_;rintro e w3 ⟨rfl,hb3⟩))
      all_goals go_wp2_with fail
      all_goals go_meet
      case rel=>exact⟨rfl,And.right (by assumption)⟩
     case rest=>
      obtain⟨rfl,HBW⟩:=hcut
      have HO2:Aside (O3 w (.slice da dn dc) (.slice (some ⟨ga,0,none⟩) ak ac) (.slice oa ok oc) (.slice ra rk rc) acc out row wc):=HO.out.go HBW.out
      have hcj2:wc.cell? ⟨ga,i,none⟩=some (.int .i64 q):=(HBW.out.cell (p:=⟨ga,i,none⟩) hga).trans hcj
      have hgac:ga<wc.heap.size:=Nat.lt_of_lt_of_le hga HBW.out.size
      clear s0 HKK HP1 HO hcj
      by_cases hkq:0<kq
      ·have HF2:Hid (FormB (aaa L) acc out (row++[q]) (i+1)):=HMORE.out (by omega)
       have hbA:=(Below.refl wc.heap.size wc).alloc (Nat.le_refl _) (.cells #[.int .i64 q] 3)
       have hnA:=Blk.new wc 3 #[.int .i64 q]
       have hcA: ∀u,u< [q].length→(wc.alloc (.cells #[.int .i64 q] 3)).cell? ((⟨wc.heap.size,0,none⟩:Addr).add u)=some (.int .i64 ([q][u]?.getD 0)):=fun u hu=>by
        obtain rfl:u=0:=by simpa using hu
        rw[Go.WideShapes.add_plain]
        exact hnA.cell 0
       have HO3:Aside (O3 w (.slice da dn dc) (.slice (some ⟨ga,0,none⟩) ak ac) (.slice oa ok oc) (.slice ra rk rc) acc out row (wc.alloc (.cells #[.int .i64 q] 3))):=HO2.out.go hbA
       have HCA:Aside _:=hcA
       have hpl2:row.length+[q].length≤1099511627776:=by simp;omega
       have hbzA:=HO3.out.below.size
       clear hbA hnA hcA HO2 HMORE HSTA HF
       go_wp2_with (first | (at_builtin;refine aaf rfl _ _ rfl w.heap.size _ row rfl HO3.out.row [q] ⟨wc.heap.size,0,none⟩ _ rfl HCA.out hpl2 hbzA ?_;intro a8 c8 w8 hown8 hgr8 hnil8 hat8))
       have HO4:Aside (O3 w (.slice da dn dc) (.slice (some ⟨ga,0,none⟩) ak ac) (.slice oa ok oc) (.slice a8 (row.length+[q].length) c8) acc out (row++[q]) w8):=HO3.out.goRow hgr8 hown8 hat8
       clear hown8 hgr8 hnil8 hat8 HO3 HCA
       go_roundg (ak-(i+1))
       case measure=>omega
       case rel=>exact⟨i+1,oa,ok,oc,a8,_,c8,out,row++[q],by first | rfl | go_num,rfl,by first | rfl | simp,by omega,Nat.le_refl _,HO4,HF2⟩
      ·have hkq': ¬(0:Int)<kq:=hkq
       have HST:Hid (∀X,SortedK (aaa L) X→AlikeK (aaa L) row X→X.length=row.length→FormB (aaa L) acc (out++X++[q]) [] (i+1)):=HSTA.out (by omega)
       have xr2:wc.cell? ⟨w.heap.size,0,none⟩=some (.slice da dn dc):=HO2.out.box.cell 0
       have hso:=rsorted_load HL.out ra rk rc row wc (da:=da) (dn:=dn) (dc:=dc) (MIn.up HO2.out.below.size (HIN.out.below HO2.out.below (Nat.le_refl _))) HO2.out.row.ints HRK.out.1 HF.out.non (by rw[HRK.out.1];omega)
       clear HMORE HSTA HF
       go_wp2_with fail
       refine hso.mono ?_
       rintro e w5 ⟨a5,n5,c5,X,rfl,ho5,hs5,ha5,hl5,hb5⟩
       have HF2:Hid (FormB (aaa L) acc (out++X++[q]) [] (i+1)):=HST.out X hs5 ha5 hl5
       have HO5:Aside (O3 w (.slice da dn dc) (.slice (some ⟨ga,0,none⟩) ak ac) (.slice oa ok oc) (.slice ra rk rc) acc out row w5):=HO2.out.go hb5
       have HI5:Aside (Ints w5.heap.size w5 (.slice a5 n5 c5) X):=ho5.ints
       have hcj5:w5.cell? ⟨ga,i,none⟩=some (.int .i64 q):=(hb5.cell (p:=⟨ga,i,none⟩) hgac).trans hcj2
       have hga5:ga<w5.heap.size:=Nat.lt_of_lt_of_le hgac hb5.size
       have hlx:out.length+X.length≤1099511627776:=by omega
       have hX9:X.length≤120000000:=by omega
       have hsz5:=HO5.out.below.size
       clear hso ho5 hs5 ha5 hb5 HST HO2 xr2 hcj2 hl5
       go_upto_region 14 with (first | (at_builtin;refine abl rfl _ _ rfl w.heap.size _ out rfl HO5.out.out X w5.heap.size _ rfl HI5.out hlx hsz5 ?_;intro a6 c6 w6 hown6 hbel6 hgr6 hat6))
       have hO6:=HO5.out.goOut hgr6 hown6 hat6
       have hcj6:w6.cell? ⟨ga,i,none⟩=some (.int .i64 q):=by
        rcases hO6.all.form with ⟨e,_⟩ | ⟨g,cap,e,_,_,_,hc,_⟩
        ·cases e
        ·obtain⟨e1,_,_⟩:=Value.slice.inj e
         cases e1
         have:=hc i (by rw[←HAK.out];exact hil2)
         rw[HQ.out] at this
         exact this
       have hbA:=(Below.refl w6.heap.size w6).alloc (Nat.le_refl _) (.cells #[.int .i64 q] 3)
       have hnA:=Blk.new w6 3 #[.int .i64 q]
       have hcA: ∀u,u< [q].length→(w6.alloc (.cells #[.int .i64 q] 3)).cell? ((⟨w6.heap.size,0,none⟩:Addr).add u)=some (.int .i64 ([q][u]?.getD 0)):=fun u hu=>by
        obtain rfl:u=0:=by simpa using hu
        rw[Go.WideShapes.add_plain]
        exact hnA.cell 0
       have HO7:Aside (O3 w (.slice da dn dc) (.slice (some ⟨ga,0,none⟩) ak ac) (.slice a6 (out.length+X.length) c6) (.slice ra rk rc) acc (out++X) row (w6.alloc (.cells #[.int .i64 q] 3))):=hO6.go hbA
       have HCA:Aside _:=hcA
       have hpl2:(out++X).length+[q].length≤1099511627776:=by rw[List.length_append];simp;omega
       have hbzA:=HO7.out.below.size
       have hol:(out++X).length=out.length+X.length:=List.length_append
       have HOL:Hid ((out++X).length=out.length+X.length):=hol
       clear hbA hnA hcA hO6 HO5 HI5 hown6 hbel6 hgr6 hat6 hol hcj5
       go_wp2_with (first | (at_builtin;refine aaf rfl _ _ rfl w.heap.size _ (out++X) rfl HO7.out.out [q] ⟨w6.heap.size,0,none⟩ _ rfl HCA.out hpl2 hbzA ?_;intro a8 c8 w8 hown8 hgr8 hnil8 hat8))
       have HO8:Aside (O3 w (.slice da dn dc) (.slice (some ⟨ga,0,none⟩) ak ac) (.slice a8 ((out++X).length+[q].length) c8) (.slice none 0 0) acc (out++X++[q]) [] w8):=(HO7.out.goOut hgr8 hown8 hat8).row0
       clear hown8 hgr8 hnil8 hat8 HO7 HCA
       go_roundg (ak-(i+1))
       case measure=>omega
       case rel=>exact⟨i+1,a8,_,c8,none,0,0,out++X++[q],[],by first | rfl | go_num,by first | rfl | simp,rfl,by omega,Nat.le_refl _,HO8,HF2⟩
    ·have hil2z: ¬(i:Int)<(ak:Int):=by omega
     have hso:=rsorted_load HL.out ra rk rc row wr (da:=da) (dn:=dn) (dc:=dc) (MIn.up HO.out.below.size (HIN.out.below HO.out.below (Nat.le_refl _))) HO.out.row.ints HRK.out.1 HF.out.non (by rw[HRK.out.1];omega)
     go_wp2_with fail
     refine hso.mono ?_
     rintro e w5 ⟨a5,n5,c5,X,rfl,ho5,hs5,ha5,hl5,hb5⟩
     have HFIN:Hid (FormOf (aaa L) (aa3 E zs) (out++X)):=by
      have:=HF.out.done HC0.out (by rw[←HAK.out];omega) hs5 ha5
      rw[HPT.out] at this
      exact this
     have HO5:Aside (O3 w (.slice da dn dc) (.slice aa ak ac) (.slice oa ok oc) (.slice ra rk rc) acc out row w5):=HO.out.go hb5
     have HI5:Aside (Ints w5.heap.size w5 (.slice a5 n5 c5) X):=ho5.ints
     have hlx:out.length+X.length≤1099511627776:=by omega
     have hsz5:=HO5.out.below.size
     clear hso ho5 hs5 ha5 hb5 HO HF hl5
     go_wp2_with (first | (at_builtin;refine abl rfl _ _ rfl w.heap.size _ out rfl HO5.out.out X w5.heap.size _ rfl HI5.out hlx hsz5 ?_;intro a6 c6 w6 hown6 hbel6 hgr6 hat6))
     go_ret
     exact⟨a6,_,c6,out++X,rfl,hown6,HFIN.out,HO5.out.below.trans hbel6⟩
theorem agm (a b:List (PM×Value)):ab6 (a++b)=ab6 a++ab6 b:=by simp[ab6]
theorem flatM_one {w:World}{base:Nat}{ps:List (PM×Value)}(h: ∀x∈ps,IOwn w base x.2 x.1.parts): ∀u∈ab6 ps,u.oneCell'=true:=fun u hu=>by
 obtain⟨x,hx,hu⟩:=List.mem_flatMap.1 hu
 obtain⟨a,c,e⟩:=(h x hx).val
 simp only[List.mem_cons,List.not_mem_nil,or_false] at hu
 rcases hu with rfl | rfl | rfl
 ·rfl
 ·rfl
 ·rw[e];rfl
theorem flatM_cells {w:World}{base n mc g:Nat}{ps:List (PM×Value)}(h:w.ownsRow base 120 3 (.slice (some ⟨g,0,none⟩) n mc) ps.length (ab6 ps))(k0:Nat)(hk:k0≤ps.length):
  (∀j u,(ab6 (ps.take k0))[j]? =some u→w.cell? ((⟨g,0,none⟩:Addr).add j)=some u)∧(∀j u,(ab6 (ps.drop k0))[j]? =some u→w.cell? ((⟨g,k0*3,none⟩:Addr).add j)=some u)∧base≤g∧g<w.heap.size∧ps.length≤mc:=by
 rcases h.2 with ⟨e0,hz0⟩ | ⟨g',cap,cur,e,hb,hg,hc,hm,hs,htk⟩
 ·cases e0
 ·obtain⟨e1,_,rfl⟩:=Value.slice.inj e
  cases e1
  have hall: ∀j u,(ab6 ps)[j]? =some u→w.cell? ⟨g,j,none⟩=some u:=fun j u hu=>by
   rw[←htk] at hu
   have hj:=(List.getElem?_eq_some_iff.1 hu).1
   rw[List.getElem?_take_of_lt (by rw[List.length_take] at hj;omega)] at hu
   simp only[World.cell?,hg]
   simpa using hu
  have hsp:ab6 ps=ab6 (ps.take k0)++ab6 (ps.drop k0):=by rw[←agm,List.take_append_drop]
  have hlt:(ab6 (ps.take k0)).length=k0*3:=by rw[flatM_len,List.length_take];omega
  refine⟨fun j u hu=> ?_,fun j u hu=> ?_,hb,(Array.getElem?_eq_some_iff.1 hg).1,hc⟩
  ·rw[Go.WideShapes.add_plain,Nat.zero_add]
   refine hall j u ?_
   rw[hsp,List.getElem?_append_left (List.getElem?_eq_some_iff.1 hu).1]
   exact hu
  ·rw[show (⟨g,k0*3,none⟩:Addr).add j=⟨g,k0*3+j,none⟩ by simp[Addr.add]]
   refine hall (k0*3+j) u ?_
   rw[hsp,List.getElem?_append_right (by omega),hlt,Nat.add_sub_cancel_left]
   exact hu
theorem LJ.fin {w:World}{vl:Value}{C:List (List UInt8)}{lp la:List Int}{l:List PM}{vp va vm:Value}{ps:List (PM×Value)}{wr:World}(h:LJ w vl C lp la l vp va vm ps wr)(v:Value):MIn (wr.setCell ⟨w.heap.size,0,none⟩ v).heap.size (wr.setCell ⟨w.heap.size,0,none⟩ v) vm l:=by
 have hk: ∀ {b1:Nat} {e1:TypeId} {s1 k1:Nat} {v1:Value} {x1:List Value},e1≠28→wr.ownsRow b1 e1 s1 v1 k1 x1→(wr.setCell ⟨w.heap.size,0,none⟩ v).ownsRow b1 e1 s1 v1 k1 x1:=fun ht h1=>aca h1 (fun g hg=>Below.heap_setCell wr ⟨w.heap.size,0,none⟩ _ g (by
  intro e
  have e':g=w.heap.size:=e
  subst e'
  obtain⟨_,c,f,q⟩:=aah h1 hg
  have:=q.symm.trans h.res
  simp only[Option.some.injEq,Obj.cells.injEq] at this
  exact ht this.2.1))
 have hm:MOwn (wr.setCell ⟨w.heap.size,0,none⟩ v) w.heap.size vm ps:=⟨hk (by decide) h.marks,fun x hx=>hk (by decide) (h.parts x hx)⟩
 have:=hm.min
 rw[h.is] at this
 exact this
end Go.Proofs.YtpfkoldfbecdlaaGreatDoor
