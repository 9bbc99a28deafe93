/- Contracts and lemmas (nothing is claimed here). -/
import Derived.Test.YtpfkoldfbecdlaaGreatDoorJ18
namespace Go.Proofs.YtpfkoldfbecdlaaGreatDoor
open Go.RowKit Go.Vf Go.Maps
def isPt (n:Int):Bool:=decide (0≤n)&&decide (n≤1114111)&&(decide (n<55296)||decide (57343<n))
theorem mayB_eq (n:Int):mayB n=(isPt n&& !ab5 n):=rfl
theorem agc (n:Int)(w:World):Calls Tryz.prog 104 #[.int .i64 n] w fun e w'=>e=.returned (.bool (ab5 n))∧w=w':=by
 by_cases h1:44032≤n
 ·by_cases h2:n≤55203
  ·go_enter Tryz.func104,Tryz.ntmps104
   go_wp2
   go_ret
   exact⟨by simp[ab5,h1,h2],rfl⟩
  ·go_enter Tryz.func104,Tryz.ntmps104
   go_wp2
   go_ret
   exact⟨by simp[ab5,h2],rfl⟩
 ·go_enter Tryz.func104,Tryz.ntmps104
  go_wp2
  go_ret
  exact⟨by simp[ab5];omega,rfl⟩
theorem isPoint_anyr (n:Int)(w:World):Calls Tryz.prog 106 #[.int .i64 n] w fun e w'=>e=.returned (.bool (isPt n))∧w=w':=by
 by_cases h1:0≤n
 ·by_cases h2:n≤1114111
  ·by_cases h3:n<55296
   ·go_enter Tryz.func106,Tryz.ntmps106
    go_wp2
    go_ret
    exact⟨by simp[isPt,h1,h2,h3],rfl⟩
   ·by_cases h4:57343<n
    ·go_enter Tryz.func106,Tryz.ntmps106
     go_wp2
     go_ret
     exact⟨by simp[isPt,h1,h2,h4],rfl⟩
    ·go_enter Tryz.func106,Tryz.ntmps106
     go_wp2
     go_ret
     exact⟨by simp[isPt];omega,rfl⟩
  ·go_enter Tryz.func106,Tryz.ntmps106
   go_wp2
   go_ret
   exact⟨by simp[isPt];omega,rfl⟩
 ·go_enter Tryz.func106,Tryz.ntmps106
  go_wp2
  go_ret
  exact⟨by simp[isPt];omega,rfl⟩
def aer (d:Nat):UInt8:=UInt8.ofNat (48+d)
def af6:Nat→Nat→List UInt8
 | 0,_=>[]
 | k+1,n=>aer (n/10^k % 10)::af6 k n
theorem padDec_len: ∀(k n:Nat),(af6 k n).length=k:=by
 intro k
 induction k with
 | zero=>intro n;rfl
 | succ k ih=>intro n;simp[af6,ih]
theorem itoa_of {c j:Nat}(hc:c≤254)(h1:1≤j)(h0:c/10^j=0)(hj:j≤1∨10^(j-1)≤c):af6 j c=Lib.itoa (c:Int):=by
 have h3:j≤3:=by
  rcases hj with h | h
  ·omega
  ·rcases Nat.lt_or_ge j 4 with hl | hl
   ·omega
   ·have:=Nat.pow_le_pow_right (show 0<10 by omega) (show 3≤j-1 by omega);omega
 rw[itoa_eq hc]
 unfold itoaS
 have hj':j=1∨j=2∨j=3:=by omega
 rcases hj' with rfl | rfl | rfl
 ·have:c<10:=by simp at h0;omega
  rw[if_pos this]
  simp[af6,aer,Nat.mod_eq_of_lt this]
 ·have h5:10≤c∧c<100:=by simp at h0 hj;omega
  rw[if_neg (by omega),if_pos h5.2]
  simp[af6,aer,show c/10 % 10=c/10 by omega]
 ·have h5:100≤c:=by simp at h0 hj;omega
  rw[if_neg (by omega),if_neg (by omega)]
  simp[af6,aer,show c/100 % 10=c/100 by omega]
theorem ten_step {u n:Nat}{sb:ByteArray}(hu:u≤254)(h:sb=bsz (af6 sb.size u)∧n=u/10^sb.size∧(sb.size≤1∨10^(sb.size-1)≤u))(hc:sb.size=0∨0<n):
  (bsz [aer (n % 10)]++sb).size=sb.size+1∧sb.size+1≤3∧((bsz [aer (n % 10)]++sb)=bsz (af6 (bsz [aer (n % 10)]++sb).size u)∧n/10=u/10^(bsz [aer (n % 10)]++sb).size∧((bsz [aer (n % 10)]++sb).size≤1∨10^((bsz [aer (n % 10)]++sb).size-1)≤u)):=by
 obtain⟨h1,h2,h3⟩:=h
 have hge:0<n→10^sb.size≤u:=fun h0=>by
  rcases Nat.lt_or_ge u (10^sb.size) with hl | hl
  ·rw[Nat.div_eq_of_lt hl] at h2;omega
  ·exact hl
 have e:bsz [aer (n % 10)]++sb=bsz (af6 (sb.size+1) u):=by
  rw[af6,←h2]
  conv=>lhs;rw[h1]
  rw[bsz_append]
  rfl
 have es:(bsz [aer (n % 10)]++sb).size=sb.size+1:=by rw[e,ab8,padDec_len]
 rw[es]
 refine⟨rfl,?_,e,?_,?_⟩
 ·rcases hc with hc | hc
  ·omega
  ·have h5:=hge hc
   rcases Nat.lt_or_ge sb.size 3 with hl | hl
   ·omega
   ·have:=Nat.pow_le_pow_right (show 0<10 by omega) hl;omega
 ·rw[h2,Nat.div_div_eq_div_mul,Nat.pow_succ]
 ·rcases hc with hc | hc
  ·exact .inl (by omega)
  ·exact .inr (by rw[Nat.add_sub_cancel];exact hge hc)
theorem string_one (w:World)(x:UInt8)(c:Nat):(convert 78 9 (.slice (some ⟨w.heap.size,0,none⟩) 1 c)).run Tryz.prog (w.alloc (.cells #[.int .u8 (x.toNat:Int)] 5))=.ok (.string (bsz [x])) (w.alloc (.cells #[.int .u8 (x.toNat:Int)] 5)):=by
 have hb:=Blk.new w 5 #[.int .u8 (x.toNat:Int)]
 have hc:=run_convert_bytes_arg (P:=Tryz.prog) (w.alloc (.cells #[.int .u8 (x.toNat:Int)] 5)) 78 5 Tryz.underlying78 Tryz.underlying5 w.heap.size 0 1 c [(x.toNat:Int)] (by simp) (fun i hi=>by
  obtain rfl:i=0:=by simpa using hi
  rw[hb.cell]
  simp) 9 Tryz.underlying9
 rw[hc]
 have e:strOfNums [(x.toNat:Int)]=bsz [x]:=data_inj (by rw[strOfNums_data];simp)
 rw[e]
set_option maxHeartbeats 1000000 in
set_option maxRecDepth 20000 in
theorem ten_any (u:Nat)(hu:u≤254)(w:World):Calls Tryz.prog 122 #[.int .i64 (u:Int)] w fun e w'=>e=.returned (.string (bsz (Lib.itoa (u:Int))))∧Below w.heap.size w w':=by
 go_enter Tryz.func122,Tryz.ntmps122
 go_wp2_with fail
 go_loopw [0,3] (fun x v wr=> ∃(n:Nat) (sb:ByteArray),x=.int .i64 (n:Int)∧v=.string sb∧sb.size≤3∧n≤254∧Hid (sb=bsz (af6 sb.size u)∧n=u/10^sb.size∧(sb.size≤1∨10^(sb.size-1)≤u))∧Below w.heap.size w wr) (fun _ v _=>4-strLen v)
 case atStart=>exact⟨u,⟨#[]⟩,rfl,rfl,by decide,hu,⟨rfl,by simp[ByteArray.size],.inl (by decide)⟩,Below.refl _ _⟩
 case round=>
  obtain⟨n,sb,rfl,rfl,hs6,hn,HS,hbel⟩:=hrel
  have hx:((aer (n % 10)).toNat:Int)=48+(n:Int) % 10:=by
   unfold aer;rw[UInt8.toNat_ofNat'];omega
  have hone:=string_one wr (aer (n % 10)) 1
  rw[hx] at hone
  clear hx
  have hb1:=hbel.alloc hbel.size (.cells #[.int .u8 (48+(n:Int) % 10)] 5)
  by_cases h0:sb.size=0
  ·obtain rfl:sb=⟨#[]⟩:=by
    apply ByteArray.ext
    exact Array.eq_empty_of_size_eq_zero h0
   go_wp2_with fail
   obtain⟨q1,q2,q3⟩:=ten_step hu HS.out (.inl rfl)
   exact⟨⟨n/10,_,by simp,rfl,by omega,by omega,q3,hb1⟩,by simp only[strLen];omega⟩
  ·have hemp:sb.toList.isEmpty=false:=by
    rw[ByteArray.toList_eq,List.isEmpty_eq_false_iff]
    intro e
    exact h0 (by rw[Lib.size_eq,e];rfl)
   by_cases hn0:n=0
   ·subst hn0
    clear hone hb1
    go_wp2_with fail
    go_ret
    have hS:=HS.out
    have e:bsz (Lib.itoa (u:Int))=sb:=by
     conv=>rhs;rw[hS.1]
     rw[itoa_of hu (by omega) hS.2.1.symm hS.2.2]
    exact⟨by rw[e];rfl,hbel⟩
   ·have hn':0<n:=by omega
    go_wp2_with fail
    obtain⟨q1,q2,q3⟩:=ten_step hu HS.out (.inr hn')
    exact⟨⟨n/10,_,by simp,rfl,by omega,by omega,q3,hb1⟩,by simp only[strLen];omega⟩
theorem aas {tmps:Array Value}{w:World}{a b:Value}(t2:tmps[2]?.getD undef=a)(t3:tmps[3]?.getD undef=b):(results Tryz.f105 tmps).run Tryz.prog w=.ok (.tuple #[a,b]) w:=by
 simp[results,Tryz.results105,go_sem,t2,t3]
theorem adt {tmps:Array Value}{w:World}{a b:Value}(t2:tmps[2]?.getD undef=a)(t3:tmps[3]?.getD undef=b):(results Tryz.f101 tmps).run Tryz.prog w=.ok (.tuple #[a,b]) w:=by
 simp[results,Tryz.results101,go_sem,t2,t3]
theorem results54_run {tmps:Array Value}{w:World}{a b:Value}(t2:tmps[2]?.getD undef=a)(t3:tmps[3]?.getD undef=b):(results Tryz.f102 tmps).run Tryz.prog w=.ok (.tuple #[a,b]) w:=by
 simp[results,Tryz.results102,go_sem,t2,t3]
theorem aed {a b:Nat}(h:aaj a=aaj b):a=b:=by
 have e: ∀u,acs adb 16 (aaj u) 0=some u:=fun u=>by
  rw[aay,agv,Nat.mod_eq_of_lt (Nat.lt_of_lt_of_le (ads u _ (Nat.le_refl _)) (Nat.pow_le_pow_right (by omega) (by omega)))]
  simp
 have h1:=e a
 rw[h,e b] at h1
 simpa using h1.symm
def NumOf (l:List UInt8)(x:Int)(b:Bool):Prop:=(b=true∧ ∃n:Nat,x=(n:Int)∧n<16^6∧l=aaj n)∨(b=false∧abc l=none)
theorem NumOf.bad {l:List UInt8}(h: ¬(4≤l.length∧l.length≤6)∨acs adb 16 l 0=none):NumOf l 0 false:=by
 refine .inr ⟨rfl,?_⟩
 unfold abc
 split
 ·rename_i hs
  rcases h with h | h
  ·exact absurd ⟨by omega,by omega⟩ h
  ·rw[h]
 ·rfl
theorem NumOf.done {l:List UInt8}{n:Nat}(h:acs adb 16 l 0=some n)(hn:n<16^6):NumOf l (n:Int) (decide (aaj n=l)):=by
 by_cases e:aaj n=l
 ·exact .inl ⟨by simp[e],n,rfl,hn,e.symm⟩
 ·refine .inr ⟨by simp[e],?_⟩
  cases hp:abc l with
  | none=>rfl
  | some p=>
   exfalso
   obtain⟨u,_,hu,_,hs⟩:=afo hp
   have h1:acs adb 16 (aaj u) 0=some u:=by
    rw[aay,agv,Nat.mod_eq_of_lt (Nat.lt_of_lt_of_le (ads u _ (Nat.le_refl _)) (Nat.pow_le_pow_right (by omega) (by omega)))]
    simp
   rw[←hs,h] at h1
   have:n=u:=by simpa using h1
   subst this
   exact e hs.symm
def NumPost (l:List UInt8)(w:World)(e:Ending)(w':World):Prop:= ∃x b,e=.returned (.tuple #[.int .i64 x,.bool b])∧NumOf l x b∧w=w'
theorem numB_at (s:ByteArray)(k:Nat)(hk:k<s.size)(m:Nat):acs adb 16 (s.data.toList.drop k) m=match adb s[k] with
  | none=>none
  | some d=>acs adb 16 (s.data.toList.drop (k+1)) (m*16+d):=by
 rw[drop_at s k hk]
 rfl
set_option maxHeartbeats 2000000 in
set_option maxRecDepth 20000 in
theorem number_any (s:ByteArray)(hs:s.size≤17179869184)(w:World):Calls Tryz.prog 105 #[.string s] w fun e w'=>NumPost s.data.toList w e w':=by
 have HSL:Hid (s.data.toList.length=s.size):=(Lib.size_eq s).symm
 by_cases h4:s.size<4
 ·have HB:Hid (NumOf s.data.toList 0 false):=NumOf.bad (.inl (by rw[HSL.out];omega))
  go_enter Tryz.func105,Tryz.ntmps105
  go_wp2_with fail
  refine bodyPost_ret (aas rfl rfl) rfl ?_
  exact⟨0,false,rfl,HB.out,rfl⟩
 ·by_cases h6:6<s.size
  ·have HB:Hid (NumOf s.data.toList 0 false):=NumOf.bad (.inl (by rw[HSL.out];omega))
   go_enter Tryz.func105,Tryz.ntmps105
   go_wp2_with fail
   refine bodyPost_ret (aas rfl rfl) rfl ?_
   exact⟨0,false,rfl,HB.out,rfl⟩
  ·go_enter Tryz.func105,Tryz.ntmps105
   go_wp2_with fail
   go_loopw [4,5,6] (fun x i _ wr=> ∃(k m:Nat),k≤s.size∧i=.int .i64 k∧x=.int .i64 (m:Int)∧m<16777216∧Hid (m<16^k∧acs adb 16 (s.data.toList.drop k) m=acs adb 16 s.data.toList 0)∧wr=w) (fun _ i _ _=>s.size-(intOf i).toNat)
   case atStart=>exact⟨0,0,by omega,rfl,rfl,by omega,⟨by simp,by simp⟩,rfl⟩
   case round=>
    obtain⟨k,m,hk,rfl,rfl,hm,HM,rfl⟩:=hrel
    by_cases hlt:k<s.size
    ·have hstep:=numB_at s k hlt m
     have hm6:m*16+15<16777216:=by
      have h1:=HM.out.1
      have h2:16^k≤16^5:=Nat.pow_le_pow_right (by omega) (by omega)
      omega
     have h256:(s[k]).toNat<256:=(s[k]).toNat_lt
     have HN:Hid (∀d,adb s[k]=some d→acs adb 16 (s.data.toList.drop (k+1)) (m*16+d)=acs adb 16 s.data.toList 0):=fun d hd=>by
      rw[←HM.out.2,hstep,hd]
     have HF:Hid (adb s[k]=none→acs adb 16 s.data.toList 0=none):=fun hd=>by
      rw[←HM.out.2,hstep,hd]
     have HP:Hid (∀d,d<16→m*16+d<16^(k+1)):=fun d hd=>by
      have h1:=HM.out.1
      rw[Nat.pow_succ];omega
     have hx:adb s[k]=if 65≤(s[k]).toNat∧(s[k]).toNat≤70 then some ((s[k]).toNat-55) else if 48≤(s[k]).toNat∧(s[k]).toNat≤57 then some ((s[k]).toNat-48) else none:=rfl
     have HX:Hid (adb s[k]=if 65≤(s[k]).toNat∧(s[k]).toNat≤70 then some ((s[k]).toNat-55) else if 48≤(s[k]).toNat∧(s[k]).toNat≤57 then some ((s[k]).toNat-48) else none):=hx
     clear hstep hx HM
     by_cases hA:65≤(s[k]).toNat∧(s[k]).toNat≤70
     ·obtain⟨hA1,hA2⟩:=hA
      go_wp2_with fail
      exact⟨⟨k+1,m*16+((s[k]).toNat-55),by omega,by go_num,congrArg (Value.int .i64) (by omega),by omega,⟨HP.out _ (by omega),HN.out _ (by rw[HX.out,if_pos ⟨hA1,hA2⟩])⟩,trivial⟩,by simp only[intOf];omega⟩
     ·by_cases hB:48≤(s[k]).toNat∧(s[k]).toNat≤57
      ·obtain⟨hB1,hB2⟩:=hB
       have HXB:Hid (adb s[k]=some ((s[k]).toNat-48)):=by show _=_;rw[HX.out,if_neg hA,if_pos ⟨hB1,hB2⟩]
       have hA': ¬65≤(s[k]).toNat:=by omega
       clear hA
       go_wp2_with fail
       exact⟨⟨k+1,m*16+((s[k]).toNat-48),by omega,by go_num,congrArg (Value.int .i64) (by omega),by omega,⟨HP.out _ (by omega),HN.out _ HXB.out⟩,trivial⟩,by simp only[intOf];omega⟩
      ·have HB:Hid (NumOf s.data.toList 0 false):=NumOf.bad (.inr (HF.out (by rw[HX.out,if_neg hA,if_neg hB])))
       clear HX HN HF HP
       by_cases h1:(s[k]).toNat<48
       ·clear hA hB
        go_wp2_with fail
        refine bodyPost_ret (aas rfl rfl) rfl ?_
        exact⟨0,false,rfl,HB.out,rfl⟩
       ·by_cases h2:70<(s[k]).toNat
        ·clear hA hB
         go_wp2_with fail
         refine bodyPost_ret (aas rfl rfl) rfl ?_
         exact⟨0,false,rfl,HB.out,rfl⟩
        ·have h3:57<(s[k]).toNat∧(s[k]).toNat<65:=by omega
         obtain⟨h3a,h3b⟩:=h3
         clear hA hB
         by_cases h4':64≤(s[k]).toNat
         ·skip
          go_wp2_with fail
          refine bodyPost_ret (aas rfl rfl) rfl ?_
          exact⟨0,false,rfl,HB.out,rfl⟩
         ·have h5:(s[k]).toNat≤63:=by omega
          go_wp2_with fail
          refine bodyPost_ret (aas rfl rfl) rfl ?_
          exact⟨0,false,rfl,HB.out,rfl⟩
    ·obtain rfl:k=s.size:=by omega
     have HNB:Hid (acs adb 16 s.data.toList 0=some m):=by
      show _=_
      rw[←HM.out.2,af0 s s.size (Nat.le_refl _)]
      rfl
     have hdm:=digits_any m (by omega) wr
     have HD:Hid (NumOf s.data.toList (m:Int) (decide (aaj m=s.data.toList))):=NumOf.done HNB.out (by omega)
     go_wp2_with fail
     refine hdm.mono ?_
     rintro e w1 ⟨rfl,rfl⟩
     go_wp2_with fail
     refine bodyPost_ret (aas rfl rfl) rfl ?_
     have e1:(aaj m==s.toList)=decide (aaj m=s.data.toList):=by rw[ByteArray.toList_eq];exact Bool.eq_iff_iff.2 (by simp)
     exact⟨m,decide (aaj m=s.data.toList),by rw[←e1];rfl,HD.out,rfl⟩
def PartPost (l:List UInt8)(w:World)(e:Ending)(w':World):Prop:= ∃x b,e=.returned (.tuple #[.int .i64 x,.bool b])∧((b=true∧abc l=some x)∨(b=false∧abc l=none))∧w=w'
set_option maxHeartbeats 2000000 in
set_option maxRecDepth 20000 in
theorem part_any (s:ByteArray)(hs:s.size≤17179869184)(w:World):Calls Tryz.prog 101 #[.string s] w fun e w'=>PartPost s.data.toList w e w':=by
 go_enter Tryz.func101,Tryz.ntmps101
 go_wp2_with fail
 refine(number_any s hs w).mono ?_
 rintro e w1 ⟨x,b,rfl,hnum,rfl⟩
 rcases hnum with ⟨rfl,n,rfl,hn,hl⟩ | ⟨rfl,hno⟩
 ·have HL:Hid (s.data.toList=aaj n):=hl
  clear hl
  have hP:=isPoint_anyr (n:Int) w
  have hS:=agc (n:Int) w
  cases g1:isPt (n:Int) with
  | false=>
   rw[g1] at hP
   have HN:Hid (abc s.data.toList=none):=by
    show _=_
    cases hp:abc s.data.toList with
    | none=>rfl
    | some p=>
     exfalso
     obtain⟨u,_,_,hm,hs'⟩:=afo hp
     have:=aed (HL.out.symm.trans hs')
     subst this
     rw[mayB_eq,g1] at hm
     simp at hm
   go_wp2_with fail
   refine hP.mono ?_
   rintro e w2 ⟨rfl,rfl⟩
   go_wp2_with fail
   refine bodyPost_ret (adt rfl rfl) rfl ?_
   exact⟨n,false,rfl,.inr ⟨rfl,HN.out⟩,rfl⟩
  | true=>
   rw[g1] at hP
   cases g2:ab5 (n:Int) with
   | true=>
    rw[g2] at hS
    have HN:Hid (abc s.data.toList=none):=by
     show _=_
     cases hp:abc s.data.toList with
     | none=>rfl
     | some p=>
      exfalso
      obtain⟨u,_,_,hm,hs'⟩:=afo hp
      have:=aed (HL.out.symm.trans hs')
      subst this
      rw[mayB_eq,g2] at hm
      simp at hm
    go_wp2_with fail
    refine hP.mono ?_
    rintro e w2 ⟨rfl,rfl⟩
    go_wp2_with fail
    refine hS.mono ?_
    rintro e w2 ⟨rfl,rfl⟩
    go_wp2_with fail
    refine bodyPost_ret (adt rfl rfl) rfl ?_
    exact⟨n,false,rfl,.inr ⟨rfl,HN.out⟩,rfl⟩
   | false=>
    rw[g2] at hS
    have HY:Hid (abc s.data.toList=some (n:Int)):=by
     show _=_
     rw[HL.out]
     refine pointR_pointS ?_ (by rw[mayB_eq,g1,g2];rfl)
     unfold isPt at g1
     simp at g1
     omega
    go_wp2_with fail
    refine hP.mono ?_
    rintro e w2 ⟨rfl,rfl⟩
    go_wp2_with fail
    refine hS.mono ?_
    rintro e w2 ⟨rfl,rfl⟩
    go_wp2_with fail
    refine bodyPost_ret (adt rfl rfl) rfl ?_
    exact⟨n,true,rfl,.inl ⟨rfl,HY.out⟩,rfl⟩
 ·have HN:Hid (abc s.data.toList=none):=hno
  clear hno
  go_wp2_with fail
  refine bodyPost_ret (adt rfl rfl) rfl ?_
  exact⟨x,false,rfl,.inr ⟨rfl,HN.out⟩,rfl⟩
def ClassPost (l:List UInt8)(w:World)(e:Ending)(w':World):Prop:= ∃x b,e=.returned (.tuple #[.int .i64 x,.bool b])∧((b=true∧ach l=some x)∨(b=false∧ach l=none))∧Below w.heap.size w w'
set_option maxHeartbeats 2000000 in
set_option maxRecDepth 20000 in
theorem refClass_any (s:ByteArray)(w:World):Calls Tryz.prog 102 #[.string s] w fun e w'=>ClassPost s.data.toList w e w':=by
 go_enter Tryz.func102,Tryz.ntmps102
 go_wp2_with fail
 go_loopw [4] (fun i wr=> ∃k:Nat,k≤255∧i=.int .i64 k∧Hid (∀c,c<k→Lib.itoa (c:Int)≠s.data.toList)∧Below w.heap.size w wr) (fun i _=>255-(intOf i).toNat)
 case atStart=>exact⟨0,by omega,rfl,fun c hc=>absurd hc (by omega),Below.refl _ _⟩
 case round=>
  obtain⟨k,hk,rfl,HK,hbel⟩:=hrel
  by_cases hlt:k≤254
  ·have ht:=ten_any k hlt wr
   by_cases he:Lib.itoa (k:Int)=s.data.toList
   ·have HY:Hid (ach s.data.toList=some (k:Int)):=by
     show _=_
     rw[←he]
     exact(classR_itoa hlt).1
    have heq:(Lib.itoa (k:Int)==s.toList)=true:=by rw[ByteArray.toList_eq];simp[he]
    clear he
    go_wp2_with fail
    refine ht.mono ?_
    rintro e w1 ⟨rfl,hb1⟩
    go_wp2_with fail
    refine bodyPost_ret (results54_run rfl rfl) rfl ?_
    exact⟨k,true,rfl,.inl ⟨rfl,HY.out⟩,hbel.trans (hb1.mono hbel.size)⟩
   ·have heq:(Lib.itoa (k:Int)==s.toList)=false:=by rw[ByteArray.toList_eq];simp[he]
    have HK2:Hid (∀c,c<k+1→Lib.itoa (c:Int)≠s.data.toList):=fun c hc=>by
     rcases Nat.lt_or_ge c k with h | h
     ·exact HK.out c h
     ·obtain rfl:c=k:=by omega
      exact he
    clear he HK
    go_wp2_with fail
    refine ht.mono ?_
    rintro e w1 ⟨rfl,hb1⟩
    go_wp2_with fail
    go_roundw
    case rel=>exact⟨k+1,by omega,by go_num,HK2,hbel.trans (hb1.mono hbel.size)⟩
    case measure=>simp only[intOf];omega
  ·have HN:Hid (ach s.data.toList=none):=by
    show _=_
    cases hc:ach s.data.toList with
    | none=>rfl
    | some x=>
     exfalso
     obtain⟨c,_,hc2,hs⟩:=itoa_classR hc
     exact HK.out c (by omega) hs.symm
   go_wp2_with fail
   refine bodyPost_ret (results54_run rfl rfl) rfl ?_
   exact⟨0,false,rfl,.inr ⟨rfl,HN.out⟩,hbel⟩
theorem silent_any (s:ByteArray)(w:World):Calls Tryz.prog 48 #[.string s] w fun e w'=>e=.returned (.bool (aaz s.data.toList))∧w=w':=by
 by_cases hemp:s.data.toList=[]
 ·have hemp':s.toList.isEmpty=true:=by rw[ByteArray.toList_eq,hemp];rfl
  go_enter Tryz.func48,Tryz.ntmps48
  go_wp2_with fail
  go_ret
  exact⟨by simp[aaz,hemp],rfl⟩
 ·have hemp':s.toList.isEmpty=false:=by rw[ByteArray.toList_eq];simpa using hemp
  have hsz:0<s.size:=by rw[Lib.size_eq];exact List.length_pos_iff.2 hemp
  have hhd:=aep s hsz
  by_cases h35:(s[0]).toNat=35
  ·have h35':(((s[0]).toNat:Int)==35)=true:=by simp[h35]
   go_enter Tryz.func48,Tryz.ntmps48
   go_wp2_with fail
   go_ret
   have e:s[0]=35:=UInt8.toNat_inj.1 h35
   exact⟨by simp[aaz,hhd,e],rfl⟩
  ·have h35':(((s[0]).toNat:Int)==35)=false:=by simp;omega
   go_enter Tryz.func48,Tryz.ntmps48
   go_wp2_with fail
   go_ret
   have e:s[0]≠35:=fun e=>h35 (by rw[e];rfl)
   exact⟨by simp[aaz,hhd,e];simpa using hemp,rfl⟩
theorem info9:(Tryz.prog.info? 9).map (fun i=>(i.zero,i.size,i.bytes))=some (some (.string ⟨#[]⟩),1,16):=by kernel_rfl
def SOwn (w:World)(base:Nat)(v:Value)(ss:List (List UInt8)):Prop:=w.ownsRow base 9 1 v ss.length (ss.map fun l=>Value.string (bsz l))
theorem SOwn.nil (w:World)(base:Nat):SOwn w base (.slice none 0 0) []:=World.ownsRow_nil _ _ _ _
theorem acj {w:World}{ops:Array Oper}{rest:List Oper}{o:Oper}{a:Act}{Q:Exit→Act→World→Prop}(hgd:o.guard=none)(s x:Operand)
  (ho:o.op=.call {callee:=.builtin .append,args:= #[s,x],argTypes:= #[115,115]})
  (base:Nat) (v:Value) (ss:List (List UInt8)) (hs:a.eval s=v) (hown:SOwn w base v ss) (t:ByteArray) (l:List UInt8) (ht:t=bsz l) (hx:a.eval x=.slice (some ⟨w.heap.size,0,none⟩) 1 1)
  (hlen:ss.length≤1099511627) (hbase:base≤w.heap.size)
  (h: ∀a' c' w',SOwn w' base (.slice a' (ss.length+1) c') (ss++[l])→(w.alloc (.cells #[.string t] 9)).grownBy w' v.ownBlock→wpList Tryz.prog ops Q rest (a.put o.dst (.slice a' (ss.length+1) c')) w'):
  wpList Tryz.prog ops Q (o::rest) a (w.alloc (.cells #[.string t] 9)):=by
 subst ht
 obtain⟨i,hi,hz,hsz,hby⟩:=info_parts info9
 have hb:=Blk.new w 9 #[.string (bsz l)]
 refine wpList_append_own_at (P:=Tryz.prog) _ hgd s x 115 ho base 9 i _ 1 16 Tryz.underlying115 hi hz hsz hby rfl (by decide) v ss.length (ss.map fun l=>Value.string (bsz l)) hs (World.ownsRow.alloc hown _) ⟨w.heap.size,0,none⟩ 1 1 [.string (bsz l)] hx (by rfl) ?_ ?_ ?_ ?_ ?_ ?_
 ·intro j u hu
  match j,hu with
  | 0,hu=>simp at hu;subst hu;exact hb.cell 0
 ·intro u hu;simp at hu;subst hu;rfl
 ·unfold maxLen;omega
 ·omega
 ·simp;omega
 ·intro v' w' h1 h2 _ _
  obtain⟨a',c',rfl⟩:=aba h1
  exact h a' c' w' (by unfold SOwn;rw[List.length_append,List.map_append];exact h1) h2
theorem adq (s:ByteArray)(a b:Nat):s.extract a b=bsz ((s.data.toList.drop a).take (b-a)):=by
 apply ByteArray.ext
 apply Array.ext'
 simp[ByteArray.data_extract,List.extract_eq_take_drop]
structure CutAt (c:UInt8)(l:List UInt8)(fr k:Nat)(acc:List (List UInt8)):Prop where
 le:fr≤k
 no: ∀x∈(l.drop fr).take (k-fr),x≠c
 eq:acc++aa7 c (l.drop fr)=aa7 c l
theorem CutAt.step {c:UInt8}{l:List UInt8}{fr k:Nat}{acc:List (List UInt8)}(h:CutAt c l fr k acc)(hk:k<l.length)(hne:l[k]≠c):CutAt c l fr (k+1) acc:=by
 refine⟨by have:=h.le;omega,fun x hx=> ?_,h.eq⟩
 have hle:=h.le
 have e:(l.drop fr).take (k+1-fr)=(l.drop fr).take (k-fr)++[l[k]]:=by
  rw[show k+1-fr=(k-fr)+1 by omega,List.take_succ_eq_append_getElem (by rw[List.length_drop];omega),List.getElem_drop]
  congr 2
  congr 1
  omega
 rw[e] at hx
 rcases List.mem_append.1 hx with hx | hx
 ·exact h.no x hx
 ·simp at hx;subst hx;exact hne
theorem CutAt.cut {c:UInt8}{l:List UInt8}{fr k:Nat}{acc:List (List UInt8)}(h:CutAt c l fr k acc)(hk:k<l.length)(he:l[k]=c):CutAt c l (k+1) (k+1) (acc++[(l.drop fr).take (k-fr)]):=by
 have hle:=h.le
 refine⟨Nat.le_refl _,fun x hx=>by simp at hx,?_⟩
 have e:l.drop fr=(l.drop fr).take (k-fr)++c::l.drop (k+1):=by
  conv=>lhs;rw[←List.take_append_drop (k-fr) (l.drop fr)]
  rw[List.drop_drop,show fr+(k-fr)=k by omega,List.drop_eq_getElem_cons hk,he]
 have e2:=h.eq
 rw[e,aff c _ _ h.no] at e2
 rw[←e2]
 simp
theorem CutAt.last {c:UInt8}{l:List UInt8}{fr:Nat}{acc:List (List UInt8)}(h:CutAt c l fr l.length acc):acc++[(l.drop fr).take (l.length-fr)]=aa7 c l:=by
 have e:(l.drop fr).take (l.length-fr)=l.drop fr:=List.take_of_length_le (by rw[List.length_drop];omega)
 have h1:=h.no
 rw[e] at h1
 rw[e,←h.eq,agy c _ h1]
theorem CutAt.acc {c:UInt8}{l:List UInt8}{fr k:Nat}{acc:List (List UInt8)}(h:CutAt c l fr k acc):acc.length≤l.length+1:=by
 have:=congrArg List.length h.eq
 rw[List.length_append] at this
 have h2:=abn c l
 omega
set_option maxHeartbeats 4000000 in
set_option maxRecDepth 20000 in
theorem agu (s:ByteArray)(c:UInt8)(hs:s.size≤65536)(w:World):Calls Tryz.prog 100 #[.string s,.int .u8 (c.toNat:Int)] w fun e w'=> ∃a k cap,e=.returned (.slice a k cap)∧SOwn w' w.heap.size (.slice a k cap) (aa7 c s.data.toList)∧Below w.heap.size w w':=by
 have HSL:Hid (s.data.toList.length=s.size):=(Lib.size_eq s).symm
 go_enter Tryz.func100,Tryz.ntmps100
 go_wp2_with fail
 go_loopw [5,6,7] (fun v x i wr=> ∃(k fr:Nat) (acc:List (List UInt8)),k≤s.size+1∧i=.int .i64 k∧x=.int .i64 fr∧SOwn wr w.heap.size v acc∧acc.length≤65540∧Hid ((k≤s.size∧CutAt c s.data.toList fr k acc)∨(k=s.size+1∧acc=aa7 c s.data.toList))∧Below w.heap.size w wr) (fun _ _ i _=>s.size+1-(intOf i).toNat)
 case atStart=>exact⟨0,0,[],by omega,rfl,rfl,SOwn.nil _ _,by simp,.inl ⟨by omega,Nat.le_refl _,by simp,by simp⟩,Below.refl _ _⟩
 case round=>
  obtain⟨k,fr,acc,hk,rfl,rfl,hown,hal,HC,hbel⟩:=hrel
  obtain⟨av,cv,rfl⟩:=aba hown
  have hbs:=hbel.size
  have hal':acc.length≤1099511627:=by omega
  by_cases hle:k≤s.size
  ·have HCA:Hid (CutAt c s.data.toList fr k acc):=by
    rcases HC.out with h | h
    ·exact h.2
    ·omega
   have hfk:=HCA.out.le
   clear HC
   by_cases hlt:k<s.size
   ·have hltl:k<s.data.toList.length:=by rw[HSL.out];exact hlt
    have hsk:s.data.toList[k]=s[k]:=rfl
    have hk1:((k:Int)==(s.size:Int))=false:=by simp;omega
    have h256:(s[k]).toNat<256:=(s[k]).toNat_lt
    by_cases hc:s[k]=c
    ·have ht:((s[k].toNat:Int)==(c.toNat:Int))=true:=by rw[hc];simp
     have HC2:Hid (CutAt c s.data.toList (k+1) (k+1) (acc++[(s.data.toList.drop fr).take (k-fr)])):=HCA.out.cut hltl (by rw[hsk];exact hc)
     have hacc:=HC2.out.acc
     rw[HSL.out] at hacc
     clear hc hsk
     go_wp2_with (first | (at_builtin;refine acj rfl _ _ rfl w.heap.size _ acc rfl hown _ _ (adq s fr k) rfl hal' hbs ?_;intro a5 c5 w5 hown5 hgr5))
     have hb5:Below w.heap.size w w5:=(hbel.alloc hbs _).grown hgr5 (by simp;omega) (fun j hj=>(aah hown hj).1)
     go_roundw
     case rel=>exact⟨k+1,k+1,_,by omega,by go_num,by go_num,hown5,by omega,.inl ⟨by omega,HC2.out⟩,hb5⟩
     case measure=>simp only[intOf];omega
    ·have ht:((s[k].toNat:Int)==(c.toNat:Int))=false:=by
      rw[beq_eq_false_iff_ne]
      intro e
      exact hc (UInt8.toNat_inj.1 (by omega))
     have HC2:Hid (CutAt c s.data.toList fr (k+1) acc):=HCA.out.step hltl (by rw[hsk];exact hc)
     clear hc hsk
     go_wp2_with fail
     go_roundw
     case rel=>exact⟨k+1,fr,acc,by omega,by go_num,rfl,hown,hal,.inl ⟨by omega,HC2.out⟩,hbel⟩
     case measure=>simp only[intOf];omega
   ·obtain rfl:k=s.size:=by omega
    have hacc:=HCA.out.acc
    rw[HSL.out] at hacc
    have HC2:Hid (acc++[(s.data.toList.drop fr).take (s.size-fr)]=aa7 c s.data.toList):=by
     have h:=HCA.out
     rw[←HSL.out] at h
     have:=h.last
     rwa [HSL.out] at this
    have hk1:((s.size:Int)==(s.size:Int))=true:=by simp
    go_wp2_with (first | (at_builtin;refine acj rfl _ _ rfl w.heap.size _ acc rfl hown _ _ (adq s fr s.size) rfl hal' hbs ?_;intro a5 c5 w5 hown5 hgr5))
    have hb5:Below w.heap.size w w5:=(hbel.alloc hbs _).grown hgr5 (by simp;omega) (fun j hj=>(aah hown hj).1)
    go_roundw
    case rel=>exact⟨s.size+1,s.size+1,_,by omega,by go_num,by go_num,hown5,by rw[List.length_append];simp;omega,.inr ⟨rfl,HC2.out⟩,hb5⟩
    case measure=>simp only[intOf];omega
  ·have HE:Hid (acc=aa7 c s.data.toList):=by
    rcases HC.out with h | h
    ·omega
    ·exact h.2
   go_wp2_with fail
   go_ret
   exact⟨_,_,_,rfl,by rw[←HE.out];exact hown,hbel⟩
set_option maxHeartbeats 4000000 in
set_option maxRecDepth 20000 in
theorem refLines_any (s:ByteArray)(hs:s.size≤65536)(w:World):Calls Tryz.prog 47 #[.string s] w fun e w'=> ∃a k cap,e=.returned (.slice a k cap)∧SOwn w' w.heap.size (.slice a k cap) (aa7 (10:UInt8) s.data.toList)∧Below w.heap.size w w':=by
 have HSL:Hid (s.data.toList.length=s.size):=(Lib.size_eq s).symm
 go_enter Tryz.func47,Tryz.ntmps47
 go_wp2_with fail
 go_loopw [3,4,5] (fun v x i wr=> ∃(k fr:Nat) (acc:List (List UInt8)),k≤s.size+1∧i=.int .i64 k∧x=.int .i64 fr∧SOwn wr w.heap.size v acc∧acc.length≤65540∧Hid ((k≤s.size∧CutAt (10:UInt8) s.data.toList fr k acc)∨(k=s.size+1∧acc=aa7 (10:UInt8) s.data.toList))∧Below w.heap.size w wr) (fun _ _ i _=>s.size+1-(intOf i).toNat)
 case atStart=>exact⟨0,0,[],by omega,rfl,rfl,SOwn.nil _ _,by simp,.inl ⟨by omega,Nat.le_refl _,by simp,by simp⟩,Below.refl _ _⟩
 case round=>
  obtain⟨k,fr,acc,hk,rfl,rfl,hown,hal,HC,hbel⟩:=hrel
  obtain⟨av,cv,rfl⟩:=aba hown
  have hbs:=hbel.size
  have hal':acc.length≤1099511627:=by omega
  by_cases hle:k≤s.size
  ·have HCA:Hid (CutAt (10:UInt8) s.data.toList fr k acc):=by
    rcases HC.out with h | h
    ·exact h.2
    ·omega
   have hfk:=HCA.out.le
   clear HC
   by_cases hlt:k<s.size
   ·have hltl:k<s.data.toList.length:=by rw[HSL.out];exact hlt
    have hsk:s.data.toList[k]=s[k]:=rfl
    have hk1:((k:Int)==(s.size:Int))=false:=by simp;omega
    have h256:(s[k]).toNat<256:=(s[k]).toNat_lt
    by_cases hc:s[k]=(10:UInt8)
    ·have ht:((s[k].toNat:Int)==10)=true:=by rw[hc];simp
     have HC2:Hid (CutAt (10:UInt8) s.data.toList (k+1) (k+1) (acc++[(s.data.toList.drop fr).take (k-fr)])):=HCA.out.cut hltl (by rw[hsk];exact hc)
     have hacc:=HC2.out.acc
     rw[HSL.out] at hacc
     clear hc hsk
     go_wp2_with (first | (at_builtin;refine acj rfl _ _ rfl w.heap.size _ acc rfl hown _ _ (adq s fr k) rfl hal' hbs ?_;intro a5 c5 w5 hown5 hgr5))
     have hb5:Below w.heap.size w w5:=(hbel.alloc hbs _).grown hgr5 (by simp;omega) (fun j hj=>(aah hown hj).1)
     go_roundw
     case rel=>exact⟨k+1,k+1,_,by omega,by go_num,by go_num,hown5,by omega,.inl ⟨by omega,HC2.out⟩,hb5⟩
     case measure=>simp only[intOf];omega
    ·have ht:((s[k].toNat:Int)==10)=false:=by
      rw[beq_eq_false_iff_ne]
      intro e
      exact hc (UInt8.toNat_inj.1 (by have:((10:UInt8).toNat)=10:=rfl;omega))
     have HC2:Hid (CutAt (10:UInt8) s.data.toList fr (k+1) acc):=HCA.out.step hltl (by rw[hsk];exact hc)
     clear hc hsk
     go_wp2_with fail
     go_roundw
     case rel=>exact⟨k+1,fr,acc,by omega,by go_num,rfl,hown,hal,.inl ⟨by omega,HC2.out⟩,hbel⟩
     case measure=>simp only[intOf];omega
   ·obtain rfl:k=s.size:=by omega
    have hacc:=HCA.out.acc
    rw[HSL.out] at hacc
    have HC2:Hid (acc++[(s.data.toList.drop fr).take (s.size-fr)]=aa7 (10:UInt8) s.data.toList):=by
     have h:=HCA.out
     rw[←HSL.out] at h
     have:=h.last
     rwa [HSL.out] at this
    have hk1:((s.size:Int)==(s.size:Int))=true:=by simp
    go_wp2_with (first | (at_builtin;refine acj rfl _ _ rfl w.heap.size _ acc rfl hown _ _ (adq s fr s.size) rfl hal' hbs ?_;intro a5 c5 w5 hown5 hgr5))
    have hb5:Below w.heap.size w w5:=(hbel.alloc hbs _).grown hgr5 (by simp;omega) (fun j hj=>(aah hown hj).1)
    go_roundw
    case rel=>exact⟨s.size+1,s.size+1,_,by omega,by go_num,by go_num,hown5,by rw[List.length_append];simp;omega,.inr ⟨rfl,HC2.out⟩,hb5⟩
    case measure=>simp only[intOf];omega
  ·have HE:Hid (acc=aa7 (10:UInt8) s.data.toList):=by
    rcases HC.out with h | h
    ·omega
    ·exact h.2
   go_wp2_with fail
   go_ret
   exact⟨_,_,_,rfl,by rw[←HE.out];exact hown,hbel⟩
end Go.Proofs.YtpfkoldfbecdlaaGreatDoor
