/- Contracts and lemmas (nothing is claimed here). -/
import Derived.Test.YtfhpgmlfgjfknaaGreatDoorJ18
import Derived.BigRegion
namespace Go.Proofs.YtfhpgmlfgjfknaaGreatDoor
open Go.RowKit Go.Vf Go.Maps
theorem alj (u:Nat):acw ac8 16 (aae u) 0=some u:=by
 rw[aay,ahj,Nat.mod_eq_of_lt (Nat.lt_of_lt_of_le (adz u _ (Nat.le_refl _)) (Nat.pow_le_pow_right (by omega) (by omega)))]
 simp
theorem as6 {n:Nat}(hn:n<16^6):4≤(aae n).length∧(aae n).length≤6:=by
 have h:=acs n 6 hn (by omega)
 rw[aay,acn]
 omega
def NumOg (l:List UInt8)(x:Int)(b:Bool):Prop:=(b=true∧ ∃n:Nat,x=(n:Int)∧n<16^6∧l=aae n)∨(b=false∧ ∀n:Nat,n<16^6→l≠aae n)
theorem NumOg.bad {l:List UInt8}(h: ¬(4≤l.length∧l.length≤6)∨acw ac8 16 l 0=none):NumOg l 0 false:=by
 refine .inr ⟨rfl,fun n hn e=> ?_⟩
 rcases h with h | h
 ·rw[e] at h;exact h (as6 hn)
 ·rw[e,alj] at h;cases h
theorem NumOg.done {l:List UInt8}{n:Nat}(h:acw ac8 16 l 0=some n)(hn:n<16^6):NumOg l (n:Int) (decide (aae n=l)):=by
 by_cases e:aae n=l
 ·exact .inl ⟨by simp[e],n,rfl,hn,e.symm⟩
 ·refine .inr ⟨by simp[e],fun m _ hm=> ?_⟩
  rw[hm,alj] at h
  have:m=n:=by simpa using h
  subst this
  exact e hm.symm
def a5p (l:List UInt8)(w:World)(e:Ending)(w':World):Prop:= ∃x b,e=.returned (.tuple #[.int .i64 x,.bool b])∧NumOg l x b∧w=w'
set_option maxHeartbeats 2000000 in
set_option maxRecDepth 20000 in
theorem ali (s:ByteArray)(hs:s.size≤17179869184)(w:World):Calls Tryz.prog 141 #[.string s] w fun e w'=>a5p s.data.toList w e w':=by
 have HSL:Hid (s.data.toList.length=s.size):=(Lib.size_eq s).symm
 by_cases h4:s.size<4
 ·have HB:Hid (NumOg s.data.toList 0 false):=NumOg.bad (.inl (by rw[HSL.out];omega))
  go_enter Tryz.func141,Tryz.ntmps141
  go_wp2_with fail
  refine bodyPost_ret (aat rfl rfl) rfl ?_
  exact⟨0,false,rfl,HB.out,rfl⟩
 ·by_cases h6:6<s.size
  ·have HB:Hid (NumOg s.data.toList 0 false):=NumOg.bad (.inl (by rw[HSL.out];omega))
   go_enter Tryz.func141,Tryz.ntmps141
   go_wp2_with fail
   refine bodyPost_ret (aat rfl rfl) rfl ?_
   exact⟨0,false,rfl,HB.out,rfl⟩
  ·go_enter Tryz.func141,Tryz.ntmps141
   go_wp2_with fail
   go_loopw [4,5,6] (fun x i _ wr=> ∃(k m:Nat),k≤s.size∧i=.int .i64 k∧x=.int .i64 (m:Int)∧m<16777216∧Hid (m<16^k∧acw ac8 16 (s.data.toList.drop k) m=acw ac8 16 s.data.toList 0)∧wr=w) (fun _ i _ _=>s.size-(intOf i).toNat)
   case atStart=>exact⟨0,0,by omega,rfl,rfl,by omega,⟨by simp,by simp⟩,rfl⟩
   case round=>
    obtain⟨k,m,hk,rfl,rfl,hm,HM,rfl⟩:=hrel
    by_cases hlt:k<s.size
    ·have hstep:=azn s k hlt m
     have hm6:m*16+15<16777216:=by
      have h1:=HM.out.1
      have h2:16^k≤16^5:=Nat.pow_le_pow_right (by omega) (by omega)
      omega
     have h256:(s[k]).toNat<256:=(s[k]).toNat_lt
     have HN:Hid (∀d,ac8 s[k]=some d→acw ac8 16 (s.data.toList.drop (k+1)) (m*16+d)=acw ac8 16 s.data.toList 0):=fun d hd=>by
      rw[←HM.out.2,hstep,hd]
     have HF:Hid (ac8 s[k]=none→acw ac8 16 s.data.toList 0=none):=fun hd=>by
      rw[←HM.out.2,hstep,hd]
     have HP:Hid (∀d,d<16→m*16+d<16^(k+1)):=fun d hd=>by
      have h1:=HM.out.1
      rw[Nat.pow_succ];omega
     have hx:ac8 s[k]=if 65≤(s[k]).toNat∧(s[k]).toNat≤70 then some ((s[k]).toNat-55) else if 48≤(s[k]).toNat∧(s[k]).toNat≤57 then some ((s[k]).toNat-48) else none:=rfl
     have HX:Hid (ac8 s[k]=if 65≤(s[k]).toNat∧(s[k]).toNat≤70 then some ((s[k]).toNat-55) else if 48≤(s[k]).toNat∧(s[k]).toNat≤57 then some ((s[k]).toNat-48) else none):=hx
     clear hstep hx HM
     by_cases hA:65≤(s[k]).toNat∧(s[k]).toNat≤70
     ·obtain⟨hA1,hA2⟩:=hA
      go_wp2_with fail
      exact⟨⟨k+1,m*16+((s[k]).toNat-55),by omega,by go_num,congrArg (Value.int .i64) (by omega),by omega,⟨HP.out _ (by omega),HN.out _ (by rw[HX.out,if_pos ⟨hA1,hA2⟩])⟩,trivial⟩,by simp only[intOf];omega⟩
     ·by_cases hB:48≤(s[k]).toNat∧(s[k]).toNat≤57
      ·obtain⟨hB1,hB2⟩:=hB
       have HXB:Hid (ac8 s[k]=some ((s[k]).toNat-48)):=by show _=_;rw[HX.out,if_neg hA,if_pos ⟨hB1,hB2⟩]
       have hA': ¬65≤(s[k]).toNat:=by omega
       clear hA
       go_wp2_with fail
       exact⟨⟨k+1,m*16+((s[k]).toNat-48),by omega,by go_num,congrArg (Value.int .i64) (by omega),by omega,⟨HP.out _ (by omega),HN.out _ HXB.out⟩,trivial⟩,by simp only[intOf];omega⟩
      ·have HB:Hid (NumOg s.data.toList 0 false):=NumOg.bad (.inr (HF.out (by rw[HX.out,if_neg hA,if_neg hB])))
       clear HX HN HF HP
       by_cases h1:(s[k]).toNat<48
       ·clear hA hB
        go_wp2_with fail
        refine bodyPost_ret (aat rfl rfl) rfl ?_
        exact⟨0,false,rfl,HB.out,rfl⟩
       ·by_cases h2:70<(s[k]).toNat
        ·clear hA hB
         go_wp2_with fail
         refine bodyPost_ret (aat rfl rfl) rfl ?_
         exact⟨0,false,rfl,HB.out,rfl⟩
        ·have h3:57<(s[k]).toNat∧(s[k]).toNat<65:=by omega
         obtain⟨h3a,h3b⟩:=h3
         clear hA hB
         by_cases h4':64≤(s[k]).toNat
         ·skip
          go_wp2_with fail
          refine bodyPost_ret (aat rfl rfl) rfl ?_
          exact⟨0,false,rfl,HB.out,rfl⟩
         ·have h5:(s[k]).toNat≤63:=by omega
          go_wp2_with fail
          refine bodyPost_ret (aat rfl rfl) rfl ?_
          exact⟨0,false,rfl,HB.out,rfl⟩
    ·obtain rfl:k=s.size:=by omega
     have HNB:Hid (acw ac8 16 s.data.toList 0=some m):=by
      show _=_
      rw[←HM.out.2,agq s s.size (Nat.le_refl _)]
      try rfl
     have hdm:=aj0 m (by omega) wr
     have HD:Hid (NumOg s.data.toList (m:Int) (decide (aae m=s.data.toList))):=NumOg.done HNB.out (by omega)
     go_wp2_with fail
     refine hdm.mono ?_
     rintro e w1 ⟨rfl,rfl⟩
     go_wp2_with fail
     refine bodyPost_ret (aat rfl rfl) rfl ?_
     have e1:(aae m==s.toList)=decide (aae m=s.data.toList):=by rw[ByteArray.toList_eq];exact Bool.eq_iff_iff.2 (by simp)
     exact⟨m,decide (aae m=s.data.toList),by rw[←e1];rfl,HD.out,rfl⟩
set_option maxHeartbeats 4000000 in
theorem aqf (e:El)(w:World):Calls Tryz.prog 100 #[elA e] w fun r w'=>r=.returned (.bool (aah e))∧Below w.heap.size w w':=by
 obtain⟨va,pr,se,te⟩:=e
 have hb0:=(Below.refl w.heap.size w).alloc (Nat.le_refl _) (.cells #[.bool va,.int .i64 pr,.int .i64 se,.int .i64 te] 131)
 by_cases h1:pr<0
 ·have d1:decide (pr<0)=true:=by simp;omega
  have hR:aah ⟨va,pr,se,te⟩=false:=by unfold aah wtB;simp;omega
  rw[hR]
  clear hR h1
  go_enter Tryz.func100,Tryz.ntmps100
  go_wp2
  go_ret
  exact⟨rfl,hb0⟩
 have d1:decide (pr<0)=false:=by simp;omega
 by_cases h2:64319<pr
 ·have d2:decide ((64319:Int)<pr)=true:=by simp;omega
  have hR:aah ⟨va,pr,se,te⟩=false:=by unfold aah wtB;simp;omega
  rw[hR]
  clear hR h1 h2
  go_enter Tryz.func100,Tryz.ntmps100
  go_wp2
  go_ret
  exact⟨rfl,hb0⟩
 have d2:decide ((64319:Int)<pr)=false:=by simp;omega
 by_cases h3:se<0
 ·have d3:decide (se<0)=true:=by simp;omega
  have hR:aah ⟨va,pr,se,te⟩=false:=by unfold aah wtB;simp;omega
  rw[hR]
  clear hR h1 h2 h3
  go_enter Tryz.func100,Tryz.ntmps100
  go_wp2
  go_ret
  exact⟨rfl,hb0⟩
 have d3:decide (se<0)=false:=by simp;omega
 by_cases h4:65535<se
 ·have d4:decide ((65535:Int)<se)=true:=by simp;omega
  have hR:aah ⟨va,pr,se,te⟩=false:=by unfold aah wtB;simp;omega
  rw[hR]
  clear hR h1 h2 h3 h4
  go_enter Tryz.func100,Tryz.ntmps100
  go_wp2
  go_ret
  exact⟨rfl,hb0⟩
 have d4:decide ((65535:Int)<se)=false:=by simp;omega
 by_cases h5:te<0
 ·have d5:decide (te<0)=true:=by simp;omega
  have hR:aah ⟨va,pr,se,te⟩=false:=by unfold aah wtB;simp;omega
  rw[hR]
  clear hR h1 h2 h3 h4 h5
  go_enter Tryz.func100,Tryz.ntmps100
  go_wp2
  go_ret
  exact⟨rfl,hb0⟩
 have d5:decide (te<0)=false:=by simp;omega
 by_cases h6:65535<te
 ·have d6:decide ((65535:Int)<te)=true:=by simp;omega
  have hR:aah ⟨va,pr,se,te⟩=false:=by unfold aah wtB;simp;omega
  rw[hR]
  clear hR h1 h2 h3 h4 h5 h6
  go_enter Tryz.func100,Tryz.ntmps100
  go_wp2
  go_ret
  exact⟨rfl,hb0⟩
 have d6:decide ((65535:Int)<te)=false:=by simp;omega
 by_cases p0:pr=0
 ·have q0:(pr !=0)=false:=by simp;omega
  by_cases s0:se=0
  ·have q1:(se !=0)=false:=by simp;omega
   have q2:(se==0)=true:=by simp;omega
   by_cases t0:te=0
   ·have q3:(te==0)=true:=by simp;omega
    cases va with
    | true=>
     have hR:aah ⟨true,pr,se,te⟩=false:=by unfold aah wtB;simp;omega
     rw[hR]
     clear hR h1 h2 h3 h4 h5 h6 p0 s0 t0
     go_enter Tryz.func100,Tryz.ntmps100
     go_wp2
     go_ret
     exact⟨rfl,hb0⟩
    | false=>
     have hR:aah ⟨false,pr,se,te⟩=true:=by unfold aah wtB;simp;omega
     rw[hR]
     clear hR h1 h2 h3 h4 h5 h6 p0 s0 t0
     go_enter Tryz.func100,Tryz.ntmps100
     go_wp2
     go_ret
     exact⟨rfl,hb0⟩
   ·have q3:(te==0)=false:=by simp;omega
    cases va with
    | true=>
     have hR:aah ⟨true,pr,se,te⟩=false:=by unfold aah wtB;simp;omega
     rw[hR]
     clear hR h1 h2 h3 h4 h5 h6 p0 s0 t0
     go_enter Tryz.func100,Tryz.ntmps100
     go_wp2
     go_ret
     exact⟨rfl,hb0⟩
    | false=>
     have hR:aah ⟨false,pr,se,te⟩=true:=by unfold aah wtB;simp;omega
     rw[hR]
     clear hR h1 h2 h3 h4 h5 h6 p0 s0 t0
     go_enter Tryz.func100,Tryz.ntmps100
     go_wp2
     go_ret
     exact⟨rfl,hb0⟩
  ·have q1:(se !=0)=true:=by simp;omega
   have q2:(se==0)=false:=by simp;omega
   by_cases t0:te=0
   ·have q3:(te==0)=true:=by simp;omega
    cases va with
    | true=>
     have hR:aah ⟨true,pr,se,te⟩=false:=by unfold aah wtB;simp;omega
     rw[hR]
     clear hR h1 h2 h3 h4 h5 h6 p0 s0 t0
     go_enter Tryz.func100,Tryz.ntmps100
     go_wp2
     go_ret
     exact⟨rfl,hb0⟩
    | false=>
     have hR:aah ⟨false,pr,se,te⟩=false:=by unfold aah wtB;simp;omega
     rw[hR]
     clear hR h1 h2 h3 h4 h5 h6 p0 s0 t0
     go_enter Tryz.func100,Tryz.ntmps100
     go_wp2
     go_ret
     exact⟨rfl,hb0⟩
   ·have q3:(te==0)=false:=by simp;omega
    cases va with
    | true=>
     have hR:aah ⟨true,pr,se,te⟩=false:=by unfold aah wtB;simp;omega
     rw[hR]
     clear hR h1 h2 h3 h4 h5 h6 p0 s0 t0
     go_enter Tryz.func100,Tryz.ntmps100
     go_wp2
     go_ret
     exact⟨rfl,hb0⟩
    | false=>
     have hR:aah ⟨false,pr,se,te⟩=true:=by unfold aah wtB;simp;omega
     rw[hR]
     clear hR h1 h2 h3 h4 h5 h6 p0 s0 t0
     go_enter Tryz.func100,Tryz.ntmps100
     go_wp2
     go_ret
     exact⟨rfl,hb0⟩
 ·have q0:(pr !=0)=true:=by simp;omega
  by_cases s0:se=0
  ·have q1:(se !=0)=false:=by simp;omega
   have q2:(se==0)=true:=by simp;omega
   by_cases t0:te=0
   ·have q3:(te==0)=true:=by simp;omega
    cases va with
    | true=>
     have hR:aah ⟨true,pr,se,te⟩=false:=by unfold aah wtB;simp;omega
     rw[hR]
     clear hR h1 h2 h3 h4 h5 h6 p0 s0 t0
     go_enter Tryz.func100,Tryz.ntmps100
     go_wp2
     go_ret
     exact⟨rfl,hb0⟩
    | false=>
     have hR:aah ⟨false,pr,se,te⟩=false:=by unfold aah wtB;simp;omega
     rw[hR]
     clear hR h1 h2 h3 h4 h5 h6 p0 s0 t0
     go_enter Tryz.func100,Tryz.ntmps100
     go_wp2
     go_ret
     exact⟨rfl,hb0⟩
   ·have q3:(te==0)=false:=by simp;omega
    cases va with
    | true=>
     have hR:aah ⟨true,pr,se,te⟩=false:=by unfold aah wtB;simp;omega
     rw[hR]
     clear hR h1 h2 h3 h4 h5 h6 p0 s0 t0
     go_enter Tryz.func100,Tryz.ntmps100
     go_wp2
     go_ret
     exact⟨rfl,hb0⟩
    | false=>
     have hR:aah ⟨false,pr,se,te⟩=false:=by unfold aah wtB;simp;omega
     rw[hR]
     clear hR h1 h2 h3 h4 h5 h6 p0 s0 t0
     go_enter Tryz.func100,Tryz.ntmps100
     go_wp2
     go_ret
     exact⟨rfl,hb0⟩
  ·have q1:(se !=0)=true:=by simp;omega
   have q2:(se==0)=false:=by simp;omega
   by_cases t0:te=0
   ·have q3:(te==0)=true:=by simp;omega
    cases va with
    | true=>
     have hR:aah ⟨true,pr,se,te⟩=false:=by unfold aah wtB;simp;omega
     rw[hR]
     clear hR h1 h2 h3 h4 h5 h6 p0 s0 t0
     go_enter Tryz.func100,Tryz.ntmps100
     go_wp2
     go_ret
     exact⟨rfl,hb0⟩
    | false=>
     have hR:aah ⟨false,pr,se,te⟩=false:=by unfold aah wtB;simp;omega
     rw[hR]
     clear hR h1 h2 h3 h4 h5 h6 p0 s0 t0
     go_enter Tryz.func100,Tryz.ntmps100
     go_wp2
     go_ret
     exact⟨rfl,hb0⟩
   ·have q3:(te==0)=false:=by simp;omega
    cases va with
    | true=>
     have hR:aah ⟨true,pr,se,te⟩=true:=by unfold aah wtB;simp;omega
     rw[hR]
     clear hR h1 h2 h3 h4 h5 h6 p0 s0 t0
     go_enter Tryz.func100,Tryz.ntmps100
     go_wp2
     go_ret
     exact⟨rfl,hb0⟩
    | false=>
     have hR:aah ⟨false,pr,se,te⟩=true:=by unfold aah wtB;simp;omega
     rw[hR]
     clear hR h1 h2 h3 h4 h5 h6 p0 s0 t0
     go_enter Tryz.func100,Tryz.ntmps100
     go_wp2
     go_ret
     exact⟨rfl,hb0⟩
theorem ajq (u:Nat)(hu:u<16^6):(aae u).length≤6:=by
 have h:=acs u 6 hu (by omega)
 rw[aay,acn]
 omega
set_option maxHeartbeats 4000000 in
set_option maxRecDepth 20000 in
theorem amq (va:Bool)(pr se te:Nat)(hpr:pr≤65535)(hse:se≤65535)(hte:te≤65535)(w:World):
  Calls Tryz.prog 174 #[.agg #[.bool va,.int .i64 (pr:Int),.int .i64 (se:Int),.int .i64 (te:Int)]] w fun e w'=>e=.returned (.string (bsz (elP ⟨va,pr,se,te⟩)))∧Below w.heap.size w w':=by
 have hb0:=(Below.refl w.heap.size w).alloc (Nat.le_refl _) (.cells #[.bool va,.int .i64 (pr:Int),.int .i64 (se:Int),.int .i64 (te:Int)] 131)
 have hB:=Blk.new w 131 #[.bool va,.int .i64 (pr:Int),.int .i64 (se:Int),.int .i64 (te:Int)]
 have q0:=hB.cell 0
 have q1:=hB.cell 1
 have q2:=hB.cell 2
 have q3:=hB.cell 3
 have s1:(bsz (aae pr)).size≤6:=by rw[abt];exact ajq pr (by omega)
 have s2:(bsz (aae se)).size≤6:=by rw[abt];exact ajq se (by omega)
 have s3:(bsz (aae te)).size≤6:=by rw[abt];exact ajq te (by omega)
 obtain⟨F,hF⟩: ∃F:Nat→ByteArray,F=fun u=>bsz (aae u):=⟨_,rfl⟩
 have hD: ∀(u:Nat) (W:World),u≤65535→Calls Tryz.prog 173 #[.int .i64 (u:Int)] W fun e w'=>e=.returned (.string (F u))∧w'=W:=fun u W hu=>by
  rw[hF]
  exact(aj0 u (by omega) W).mono fun e w' h=>⟨h.1,h.2.symm⟩
 have t1:(F pr).size≤6:=by rw[hF];exact s1
 have t2:(F se).size≤6:=by rw[hF];exact s2
 have t3:(F te).size≤6:=by rw[hF];exact s3
 have HF:Hid (F=fun u=>bsz (aae u)):=hF
 clear hF s1 s2 s3 hB
 cases va with
 | false=>
  have HE:Hid ((⟨#[91]⟩:ByteArray)++⟨#[46]⟩++F pr++⟨#[46]⟩++F se++⟨#[46]⟩++F te++⟨#[93]⟩=bsz (elP ⟨false,pr,se,te⟩)):=by
   show _=_
   rw[HF.out]
   apply ByteArray.ext
   simp[elP]
  go_enter Tryz.func174,Tryz.ntmps174
  go_upto_region 4 with fail
  generalize w.alloc (.cells #[.bool false,.int .i64 (pr:Int),.int .i64 (se:Int),.int .i64 (te:Int)] 131)=W at hb0 q0 q1 q2 q3⊢
  go_quiet (first | (go_at_call 173;refine Calls.quiet_of_same (hD _ _ (by omega))))
  go_wp2
  go_ret
  refine⟨?_,hb0.trans ((ahe W nq).mono hb0.size)⟩
  rw[←HE.out]
  try rfl
 | true=>
  have HE:Hid ((⟨#[91]⟩:ByteArray)++⟨#[42]⟩++F pr++⟨#[46]⟩++F se++⟨#[46]⟩++F te++⟨#[93]⟩=bsz (elP ⟨true,pr,se,te⟩)):=by
   show _=_
   rw[HF.out]
   apply ByteArray.ext
   simp[elP]
  go_enter Tryz.func174,Tryz.ntmps174
  go_upto_region 4 with fail
  generalize w.alloc (.cells #[.bool true,.int .i64 (pr:Int),.int .i64 (se:Int),.int .i64 (te:Int)] 131)=W at hb0 q0 q1 q2 q3⊢
  go_quiet (first | (go_at_call 173;refine Calls.quiet_of_same (hD _ _ (by omega))))
  go_wp2
  go_ret
  refine⟨?_,hb0.trans ((ahe W nq).mono hb0.size)⟩
  rw[←HE.out]
  try rfl
theorem an5 (s:ByteArray)(a b:Nat):(s.extract a b).data.toList=(s.data.toList.drop a).take (b-a):=by
 rw[adw]
theorem alg {n:Nat}(h:(aae n).length=4):n<65536:=by
 rw[aay,acn] at h
 have h1:=adz n _ (Nat.le_refl (aa1 n).length)
 have h2:=Nat.pow_le_pow_right (n:=16) (by omega) (show(aa1 n).length≤4 by omega)
 have h3:(16:Nat)^4=65536:=by decide
 omega
theorem ajn (l:List UInt8)(a:Nat)(ha:a+4≤17):(l.drop a).take 4=((l.take 17).drop a).take 4:=by
 rw[List.drop_take,List.take_take,Nat.min_eq_left (by omega)]
theorem aoa {l:List UInt8}{e:El}(hl:17≤l.length)(h:elR (l.take 17)=some e):
  wtE e∧l.take 17=elP e∧(l.drop 2).take 4=aae e.pr.toNat∧(l.drop 7).take 4=aae e.se.toNat∧(l.drop 12).take 4=aae e.te.toNat∧l[1]? =some (if e.va then 42 else 46):=by
 obtain⟨hw,hp⟩:=aug (by rw[List.length_take];omega) h
 obtain⟨u1,e1,g1⟩:=acg hw.1
 obtain⟨u2,e2,g2⟩:=acg hw.2.1
 obtain⟨u3,e3,g3⟩:=acg hw.2.2
 have t1:e.pr.toNat=u1:=by omega
 have t2:e.se.toNat=u2:=by omega
 have t3:e.te.toNat=u3:=by omega
 obtain⟨a1,a2,a3,a4,ha⟩:=a7c (ab6 g1)
 obtain⟨b1,b2,b3,b4,hb⟩:=a7c (ab6 g2)
 obtain⟨c1,c2,c3,c4,hc⟩:=a7c (ab6 g3)
 refine⟨hw,hp,?_,?_,?_,?_⟩
 ·rw[ajn l 2 (by omega),hp,elP,t1,t2,t3,ha,hb,hc];rfl
 ·rw[ajn l 7 (by omega),hp,elP,t1,t2,t3,ha,hb,hc];rfl
 ·rw[ajn l 12 (by omega),hp,elP,t1,t2,t3,ha,hb,hc];rfl
 ·have:=congrArg (fun x:List UInt8=>x[1]?) hp
  simp only[List.getElem?_take_of_lt (show 1<17 by omega)] at this
  rw[this,elP]
  try rfl
def a60 (l:List UInt8)(w:World)(r:Ending)(w':World):Prop:=
 Below w.heap.size w w'∧ ∃(e:El) (b:Bool),r=.returned (.tuple #[elA e,.bool b])∧((b=true∧17≤l.length∧elR (l.take 17)=some e)∨(b=false∧ ∀e',17≤l.length→elR (l.take 17)≠some e'))
theorem ao2 {l:List UInt8}(h:(∀n:Nat,n<16^6→(l.drop 2).take 4≠aae n)∨(∀n:Nat,n<16^6→(l.drop 7).take 4≠aae n)∨(∀n:Nat,n<16^6→(l.drop 12).take 4≠aae n)): ∀e',17≤l.length→elR (l.take 17)≠some e':=by
 intro e' hl he
 obtain⟨hw,_,h1,h2,h3,_⟩:=aoa hl he
 have k:(65536:Nat)≤16^6:=by decide
 obtain⟨u1,e1,g1⟩:=acg hw.1
 obtain⟨u2,e2,g2⟩:=acg hw.2.1
 obtain⟨u3,e3,g3⟩:=acg hw.2.2
 rcases h with h | h | h
 ·exact h _ (by omega) h1
 ·exact h _ (by omega) h2
 ·exact h _ (by omega) h3
theorem a2u {l:List UInt8}{n1 n2 n3:Nat}{va:Bool}(hl:17≤l.length)(h1:(l.drop 2).take 4=aae n1)(h2:(l.drop 7).take 4=aae n2)(h3:(l.drop 12).take 4=aae n3)(hva:va=decide (l[1]? =some 42)):
  (n1≤65535∧n2≤65535∧n3≤65535)∧((elP ⟨va,n1,n2,n3⟩=l.take 17→elR (l.take 17)=some ⟨va,n1,n2,n3⟩)∧(elP ⟨va,n1,n2,n3⟩≠l.take 17→ ∀e',elR (l.take 17)≠some e')):=by
 have g1:n1<65536:=alg (by rw[←h1,List.length_take,List.length_drop];omega)
 have g2:n2<65536:=alg (by rw[←h2,List.length_take,List.length_drop];omega)
 have g3:n3<65536:=alg (by rw[←h3,List.length_take,List.length_drop];omega)
 have hw:wtE ⟨va,n1,n2,n3⟩:=by
  refine⟨?_,?_,?_⟩<;>(unfold wtB;simp;omega)
 refine⟨⟨by omega,by omega,by omega⟩,fun h=>by rw[←h];exact aue hw,fun h e' he=>h ?_⟩
 obtain⟨hw',hp,k1,k2,k3,k4⟩:=aoa hl he
 obtain⟨u1,e1,_⟩:=acg hw'.1
 obtain⟨u2,e2,_⟩:=acg hw'.2.1
 obtain⟨u3,e3,_⟩:=acg hw'.2.2
 have q1:=aes (h1.symm.trans k1)
 have q2:=aes (h2.symm.trans k2)
 have q3:=aes (h3.symm.trans k3)
 have q4:va=e'.va:=by
  rw[hva,k4]
  cases e'.va<;>simp
 rw[hp]
 obtain⟨v,p,q,r⟩:=e'
 simp only at q1 q2 q3 q4 e1 e2 e3
 subst q4
 congr 1
 rw[e1] at q1
 rw[e2] at q2
 rw[e3] at q3
 simp only[Int.toNat_natCast] at q1 q2 q3
 rw[q1,q2,q3,e1,e2,e3]
theorem ae0 {tmps:Array Value}{w:World}{h:Nat}{x y z t b:Value}(hb:Blk w h 131 #[x,y,z,t])(t2:tmps[2]?.getD undef=.pointer (some ⟨h,0,none⟩))(t3:tmps[3]?.getD undef=b):
  (results Tryz.f143 tmps).run Tryz.prog w=.ok (.tuple #[.agg #[x,y,z,t],b]) w:=by
 have c0:w.cell? ⟨h,0,none⟩=some x:=hb.cell 0
 have c1:w.cell? ⟨h,1,none⟩=some y:=hb.cell 1
 have c2:w.cell? ⟨h,2,none⟩=some z:=hb.cell 2
 have c3:w.cell? ⟨h,3,none⟩=some t:=hb.cell 3
 simp[results,Tryz.results143,go_sem,t2,t3,c0,c1,c2,c3]
abbrev put4 (w:World)(h:Nat)(a b c d:Value):World:=(((w.setCell ⟨h,0,none⟩ a).setCell ⟨h,1,none⟩ b).setCell ⟨h,2,none⟩ c).setCell ⟨h,3,none⟩ d
theorem Blk.put4 {w:World}{h:Nat}{t:TypeId}{a b c d:Value}(hb:Blk w h t #[a,b,c,d])(a' b' c' d':Value):Blk (put4 w h a' b' c' d') h t #[a',b',c',d']:=(((hb.set 0 a').set 1 b').set 2 c').set 3 d'
theorem ada {B:Nat}{a w:World}{h:Nat}(hb:Below B a w)(hB:B≤h)(a' b' c' d':Value):Below B a (put4 w h a' b' c' d'):=
 (((hb.setCell (p:=⟨h,0,none⟩) hB _).setCell (p:=⟨h,1,none⟩) hB _).setCell (p:=⟨h,2,none⟩) hB _).setCell (p:=⟨h,3,none⟩) hB _
structure Four (w:World)(h:Nat)(a b c d:Value):Prop where
 c0:w.cell? ⟨h,0,none⟩=some a
 c1:w.cell? ⟨h,1,none⟩=some b
 c2:w.cell? ⟨h,2,none⟩=some c
 c3:w.cell? ⟨h,3,none⟩=some d
 f0:w.frozen? ⟨h,0,none⟩=false
 f1:w.frozen? ⟨h,1,none⟩=false
 f2:w.frozen? ⟨h,2,none⟩=false
 f3:w.frozen? ⟨h,3,none⟩=false
theorem aid {w:World}{h:Nat}{t:TypeId}{a b c d:Value}(hb:Blk w h t #[a,b,c,d]):Four w h a b c d:=⟨hb.cell 0,hb.cell 1,hb.cell 2,hb.cell 3,hb.frozen 0,hb.frozen 1,hb.frozen 2,hb.frozen 3⟩
theorem amz {w:World}{h j:Nat}{t:TypeId}{cs:Array Value}(hb:Blk w j t cs)(hne:j≠h)(a b c d:Value):Blk (put4 w h a b c d) j t cs:=
 (Below.heap_setCell _ ⟨h,3,none⟩ _ j hne).trans ((Below.heap_setCell _ ⟨h,2,none⟩ _ j hne).trans ((Below.heap_setCell _ ⟨h,1,none⟩ _ j hne).trans ((Below.heap_setCell _ ⟨h,0,none⟩ _ j hne).trans hb)))
set_option maxHeartbeats 8000000 in
set_option maxRecDepth 20000 in
theorem asw (s:ByteArray)(hs:s.size≤65536)(w:World):Calls Tryz.prog 143 #[.string s] w fun r w'=>a60 s.data.toList w r w':=by
 have z:Value:=.int .i64 0
 have hb0:=((Below.refl w.heap.size w).alloc (Nat.le_refl _) (.cells #[.bool false,.int .i64 0,.int .i64 0,.int .i64 0] 131)).alloc (by simp) (.cells #[.bool false,.int .i64 0,.int .i64 0,.int .i64 0] 131)
 have hn1:Blk ((w.alloc (.cells #[.bool false,.int .i64 0,.int .i64 0,.int .i64 0] 131)).alloc (.cells #[.bool false,.int .i64 0,.int .i64 0,.int .i64 0] 131)) w.heap.size 131 #[.bool false,.int .i64 0,.int .i64 0,.int .i64 0]:=(Below.heap_alloc _ _ _ (by simp)).trans (Blk.new w 131 _)
 have hn2:Blk ((w.alloc (.cells #[.bool false,.int .i64 0,.int .i64 0,.int .i64 0] 131)).alloc (.cells #[.bool false,.int .i64 0,.int .i64 0,.int .i64 0] 131)) (w.heap.size+1) 131 #[.bool false,.int .i64 0,.int .i64 0,.int .i64 0]:=by
  have:=Blk.new (w.alloc (.cells #[.bool false,.int .i64 0,.int .i64 0,.int .i64 0] 131)) 131 #[.bool false,.int .i64 0,.int .i64 0,.int .i64 0]
  simpa using this
 have hsl:s.data.toList.length=s.size:=(Lib.size_eq s).symm
 have HSL:Hid (s.data.toList.length=s.size):=hsl
 clear hsl
 go_enter Tryz.func143,Tryz.ntmps143
 go_upto_region 2 with fail
 generalize (w.alloc (.cells #[.bool false,.int .i64 0,.int .i64 0,.int .i64 0] 131)).alloc (.cells #[.bool false,.int .i64 0,.int .i64 0,.int .i64 0] 131)=W at hb0 hn1 hn2⊢
 obtain⟨r0,r1,r2,r3,rz0,rz1,rz2,rz3⟩:=aid hn1
 obtain⟨m0,m1,m2,m3,mz0,mz1,mz2,mz3⟩:=aid hn2
 by_cases h17:s.size<17
 ·go_wp2_with fail
  refine bodyPost_ret (ae0 (hn1.put4 _ _ _ _) rfl rfl) rfl ?_
  exact⟨ada hb0 (Nat.le_refl _) _ _ _ _,⟨false,0,0,0⟩,false,rfl,.inr ⟨rfl,fun e' h=>by rw[HSL.out] at h;omega⟩⟩
 ·have hN: ∀a b,Calls Tryz.prog 141 #[.string (s.extract a b)] W fun e w'=>a5p ((s.data.toList.drop a).take (b-a)) W e w':=fun a b=>by
   have:=ali (s.extract a b) (by
    have:(s.extract a b).size≤s.size:=by simp;omega
    omega) W
   rwa [an5] at this
  have hc1:=hN 2 6
  have hc2:=hN 7 11
  have hc3:=hN 12 16
  clear hN
  go_wp2_with fail
  refine hc1.mono ?_
  rintro _ w1 ⟨x1,b1,rfl,hx1,rfl⟩
  go_wp2_with fail
  refine hc2.mono ?_
  rintro _ w1 ⟨x2,b2,rfl,hx2,rfl⟩
  go_wp2_with fail
  refine hc3.mono ?_
  rintro _ w1 ⟨x3,b3,rfl,hx3,rfl⟩
  clear hc1 hc2 hc3
  obtain⟨va,hva⟩: ∃va,(((s[1]'(by omega)).toNat:Int)==42)=va:=⟨_,rfl⟩
  go_upto_region 8 with fail
  have HVA:Hid (va=decide (s.data.toList[1]? =some 42)):=by
   show _=_
   have h1:s.data.toList[1]? =some (s[1]'(by omega)):=by
    rw[List.getElem?_eq_getElem (by rw[HSL.out];omega)]
    try rfl
   rw[←hva,h1]
   by_cases hq:(s[1]'(by omega))=42
   ·rw[hq];decide
   ·rw[decide_eq_false (show ¬some (s[1]'(by omega))=some (42:UInt8) by simp[hq])]
    have:((s[1]'(by omega)).toNat:Int)≠42:=fun e=>hq (UInt8.toNat_inj.1 (by have h42:(42:UInt8).toNat=42:=rfl;omega))
    simpa using this
  have hr2:Blk ((((W.setCell ⟨w.heap.size+1,0,none⟩ (.bool va)).setCell ⟨w.heap.size+1,1,none⟩ (.int .i64 x1)).setCell ⟨w.heap.size+1,2,none⟩ (.int .i64 x2)).setCell ⟨w.heap.size+1,3,none⟩ (.int .i64 x3)) (w.heap.size+1) 131 #[.bool va,.int .i64 x1,.int .i64 x2,.int .i64 x3]:=hn2.put4 _ _ _ _
  have hr1:Blk ((((W.setCell ⟨w.heap.size+1,0,none⟩ (.bool va)).setCell ⟨w.heap.size+1,1,none⟩ (.int .i64 x1)).setCell ⟨w.heap.size+1,2,none⟩ (.int .i64 x2)).setCell ⟨w.heap.size+1,3,none⟩ (.int .i64 x3)) w.heap.size 131 #[.bool false,.int .i64 0,.int .i64 0,.int .i64 0]:=hn1.below (ada (Below.refl (w.heap.size+1) W) (Nat.le_refl _) _ _ _ _) (by omega)
  have hb2:Below w.heap.size w ((((W.setCell ⟨w.heap.size+1,0,none⟩ (.bool va)).setCell ⟨w.heap.size+1,1,none⟩ (.int .i64 x1)).setCell ⟨w.heap.size+1,2,none⟩ (.int .i64 x2)).setCell ⟨w.heap.size+1,3,none⟩ (.int .i64 x3)):=ada hb0 (by omega) _ _ _ _
  generalize (((W.setCell ⟨w.heap.size+1,0,none⟩ (.bool va)).setCell ⟨w.heap.size+1,1,none⟩ (.int .i64 x1)).setCell ⟨w.heap.size+1,2,none⟩ (.int .i64 x2)).setCell ⟨w.heap.size+1,3,none⟩ (.int .i64 x3)=W2 at*
  clear r0 r1 r2 r3 rz0 rz1 rz2 rz3 m0 m1 m2 m3 mz0 mz1 mz2 mz3 hn1 hn2 hva
  obtain⟨r0,r1,r2,r3,rz0,rz1,rz2,rz3⟩:=aid hr1
  obtain⟨m0,m1,m2,m3,mz0,mz1,mz2,mz3⟩:=aid hr2
  have hlen17:17≤s.data.toList.length:=by rw[HSL.out];omega
  have HL17:Hid (17≤s.data.toList.length):=hlen17
  clear hlen17
  rcases hx1 with ⟨rfl,n1,rfl,g1,e1⟩ | ⟨rfl,e1⟩
  ·rcases hx2 with ⟨rfl,n2,rfl,g2,e2⟩ | ⟨rfl,e2⟩
   ·rcases hx3 with ⟨rfl,n3,rfl,g3,e3⟩ | ⟨rfl,e3⟩
    ·obtain⟨⟨k1,k2,k3⟩,kt,kf⟩:=a2u HL17.out e1 e2 e3 HVA.out
     have HKT:Hid _:=kt
     have HKF:Hid _:=kf
     clear kt kf e1 e2 e3 g1 g2 g3
     have HS:Hid (∀x y,(Below w.heap.size w x∧Blk x (w.heap.size+1) 131 #[.bool va,.int .i64 (n1:Int),.int .i64 (n2:Int),.int .i64 (n3:Int)]∧ ∃a b c d,Blk x w.heap.size 131 #[a,b,c,d])→Below x.heap.size x y→(Below w.heap.size w y∧Blk y (w.heap.size+1) 131 #[.bool va,.int .i64 (n1:Int),.int .i64 (n2:Int),.int .i64 (n3:Int)]∧ ∃a b c d,Blk y w.heap.size 131 #[a,b,c,d])):=fun x y h hb=>by
      obtain⟨h1,h2,a,b,c,d,h3⟩:=h
      exact⟨h1.trans (hb.mono h1.size),h2.below hb h2.lt,a,b,c,d,h3.below hb h3.lt⟩
     have HEL:Hid (∀X,Calls Tryz.prog 174 #[.agg #[.bool va,.int .i64 (n1:Int),.int .i64 (n2:Int),.int .i64 (n3:Int)]] X fun e w'=>e=.returned (.string (bsz (elP ⟨va,n1,n2,n3⟩)))∧Below X.heap.size X w'):=fun X=>amq va n1 n2 n3 k1 k2 k3 X
     generalize elP ⟨va,n1,n2,n3⟩=ep at*
     refine wp_region_held_drew (S:=fun x=>Below w.heap.size w x∧Blk x (w.heap.size+1) 131 #[.bool va,.int .i64 (n1:Int),.int .i64 (n2:Int),.int .i64 (n3:Int)]∧ ∃a b c d,Blk x w.heap.size 131 #[a,b,c,d]) (by kernel_rfl) ⟨hb2.drew,hr2,_,_,_,_,hr1⟩ (fun hHeld=> ?_)
     refine aac (i:=0) (some 40) (v:= ?v0) rfl rfl (by kernel_rfl) (by kernel_rfl) (by kernel_rfl) (fun _ _ _ h=>h) (Or.inl ⟨by kernel_rfl,?hy0⟩) (by assumption) ?rest0
     case hy0=>(intro x hSx;obtain⟨c0,c1,c2,c3,cz0,cz1,cz2,cz3⟩:=aid hSx.2.1;(try dsimp only at hSx);go_simp;first | done | with_reducible rfl)
     try simp only[Act.put,List.setIfInBounds_toArray,List.set_cons_zero,List.set_cons_succ]
     refine aac (i:=1) (some 41) (v:= ?v1) rfl rfl (by kernel_rfl) (by kernel_rfl) (by kernel_rfl) (fun _ _ _ h=>h) (Or.inl ⟨by kernel_rfl,?hy1⟩) (by assumption) ?rest1
     case hy1=>(intro x hSx;(try dsimp only at hSx);go_simp;first | done | with_reducible rfl)
     try simp only[Act.put,List.setIfInBounds_toArray,List.set_cons_zero,List.set_cons_succ]
     refine aac (i:=2) (some 42) (v:= ?v2) rfl rfl (by kernel_rfl) (by kernel_rfl) (by kernel_rfl) (fun _ _ _ h=>h) (Or.inl ⟨by kernel_rfl,?hy2⟩) (by assumption) ?rest2
     case hy2=>(intro x hSx;(try dsimp only at hSx);go_simp;first | done | with_reducible rfl)
     try simp only[Act.put,List.setIfInBounds_toArray,List.set_cons_zero,List.set_cons_succ]
     refine aac (i:=3) (some 43) (v:= ?v3) rfl rfl (by kernel_rfl) (by kernel_rfl) (by kernel_rfl) (fun _ _ _ h=>h) (Or.inl ⟨by kernel_rfl,?hy3⟩) (by assumption) ?rest3
     case hy3=>(intro x hSx;(try dsimp only at hSx);go_simp;first | done | with_reducible rfl)
     try simp only[Act.put,List.setIfInBounds_toArray,List.set_cons_zero,List.set_cons_succ]
     refine aac (i:=4) (some 44) (v:= ?v4) rfl rfl (by kernel_rfl) (by kernel_rfl) (by kernel_rfl) (fun _ _ _ h=>h) (Or.inl ⟨by kernel_rfl,?hy4⟩) (by assumption) ?rest4
     case hy4=>(intro x hSx;(try dsimp only at hSx);go_simp;first | done | with_reducible rfl)
     try simp only[Act.put,List.setIfInBounds_toArray,List.set_cons_zero,List.set_cons_succ]
     refine aac (i:=5) (some 45) (v:= ?v5) rfl rfl (by kernel_rfl) (by kernel_rfl) (by kernel_rfl) (fun _ _ _ h=>h) (Or.inl ⟨by kernel_rfl,?hy5⟩) (by assumption) ?rest5
     case hy5=>(intro x hSx;(try dsimp only at hSx);go_simp;first | done | with_reducible rfl)
     try simp only[Act.put,List.setIfInBounds_toArray,List.set_cons_zero,List.set_cons_succ]
     refine aac (i:=6) (some 46) (v:= ?v6) rfl rfl (by kernel_rfl) (by kernel_rfl) (by kernel_rfl) (fun _ _ _ h=>h) (Or.inl ⟨by kernel_rfl,?hy6⟩) (by assumption) ?rest6
     case hy6=>(intro x hSx;(try dsimp only at hSx);go_simp;first | done | with_reducible rfl)
     try simp only[Act.put,List.setIfInBounds_toArray,List.set_cons_zero,List.set_cons_succ]
     refine aac (i:=7) (some 47) (v:= ?v7) rfl rfl (by kernel_rfl) (by kernel_rfl) (by kernel_rfl) (fun _ _ _ h=>h) (Or.inl ⟨by kernel_rfl,?hy7⟩) (by assumption) ?rest7
     case hy7=>(intro x hSx;(try dsimp only at hSx);go_simp;first | done | with_reducible rfl)
     try simp only[Act.put,List.setIfInBounds_toArray,List.set_cons_zero,List.set_cons_succ]
     refine aac (i:=8) (some 48) (v:= ?v8) rfl rfl (by kernel_rfl) (by kernel_rfl) (by kernel_rfl) (fun _ _ _ h=>h) (Or.inl ⟨by kernel_rfl,?hy8⟩) (by assumption) ?rest8
     case hy8=>(intro x hSx;(try dsimp only at hSx);go_simp;first | done | with_reducible rfl)
     try simp only[Act.put,List.setIfInBounds_toArray,List.set_cons_zero,List.set_cons_succ]
     refine aac (i:=9) (some 49) (v:= ?v9) rfl rfl (by kernel_rfl) (by kernel_rfl) (by kernel_rfl) (fun _ _ _ h=>h) (Or.inl ⟨by kernel_rfl,?hy9⟩) (by assumption) ?rest9
     case hy9=>(intro x hSx;obtain⟨c0,c1,c2,c3,cz0,cz1,cz2,cz3⟩:=aid hSx.2.1;(try dsimp only at hSx);go_simp;first | done | with_reducible rfl)
     try simp only[Act.put,List.setIfInBounds_toArray,List.set_cons_zero,List.set_cons_succ]
     refine aac (i:=11) (some 51) (v:= ?v11) rfl rfl (by kernel_rfl) (by kernel_rfl) (by kernel_rfl) (fun _ _ _ h=>h) (Or.inl ⟨by kernel_rfl,?hy11⟩) (by assumption) ?rest11
     case hy11=>(intro x hSx;(try dsimp only at hSx);go_simp;first | done | with_reducible rfl)
     try simp only[Act.put,List.setIfInBounds_toArray,List.set_cons_zero,List.set_cons_succ]
     refine aac (i:=12) (some 52) (v:= ?v12) rfl rfl (by kernel_rfl) (by kernel_rfl) (by kernel_rfl) (fun _ _ _ h=>h) (Or.inl ⟨by kernel_rfl,?hy12⟩) (by assumption) ?rest12
     case hy12=>(intro x hSx;(try dsimp only at hSx);go_simp;first | done | with_reducible rfl)
     try simp only[Act.put,List.setIfInBounds_toArray,List.set_cons_zero,List.set_cons_succ]
     refine wpAnyH_ready (rs:=[10]) (by kernel_rfl) (by simp) ?_
     refine AllReadyH.cons rfl (fun K hK=> ?_) AllReadyH.nil
     go_simp
     go_wp2_with (go_at_call 174;refine(HEL.out _).mono ?_;rintro e y ⟨rfl,hby⟩)
     refine hK.out _ _ (HS.out _ _ hHeld hby) (fun hHeld2=> ?_)
     clear hK K
     try simp only[Act.put,List.setIfInBounds_toArray,List.set_cons_zero,List.set_cons_succ]
     obtain⟨B,hB⟩: ∃B,(ep==(s.extract 0 17).toList)=B:=⟨_,rfl⟩
     refine aac (i:=13) (some 53) (v:= ?v13) rfl rfl (by kernel_rfl) (by kernel_rfl) (by kernel_rfl) (fun _ _ _ h=>h) (Or.inl ⟨by kernel_rfl,?hy13⟩) (by assumption) ?rest13
     case hy13=>(intro x hSx;(try dsimp only at hSx);go_simp;first | done | with_reducible rfl)
     try simp only[Act.put,List.setIfInBounds_toArray,List.set_cons_zero,List.set_cons_succ]
     refine aac (i:=14) (some 54) (v:= ?v14) rfl rfl (by kernel_rfl) (by kernel_rfl) (by kernel_rfl) (fun _ _ _ h=>h) (Or.inl ⟨by kernel_rfl,?hy14⟩) (by assumption) ?rest14
     case hy14=>(intro x hSx;(try dsimp only at hSx);go_simp;first | done | with_reducible rfl)
     try simp only[Act.put,List.setIfInBounds_toArray,List.set_cons_zero,List.set_cons_succ]
     refine wpAnyH_ready (rs:=[15]) (by kernel_rfl) (by simp) ?_
     refine AllReadyH.cons rfl (fun K hK=> ?_) AllReadyH.nil
     obtain⟨h1,h2,d0,d1,d2,d3,h3⟩:=hHeld2
     obtain⟨q0,q1,q2,q3,qz0,qz1,qz2,qz3⟩:=aid h3
     go_simp
     refine hK.out _ _ ⟨ada h1 (Nat.le_refl _) _ _ _ _,amz h2 (by omega) _ _ _ _,_,_,_,_,h3.put4 _ _ _ _⟩ (fun hHeld3=> ?_)
     clear hK K
     try simp only[Act.put,List.setIfInBounds_toArray,List.set_cons_zero,List.set_cons_succ]
     refine aac (i:=16) (some 3) (v:= ?v16) rfl rfl (by kernel_rfl) (by kernel_rfl) (by kernel_rfl) (fun _ _ _ h=>h) (Or.inl ⟨by kernel_rfl,?hy16⟩) (by assumption) ?rest16
     case hy16=>(intro x hSx;(try dsimp only at hSx);go_simp;first | done | with_reducible rfl)
     try simp only[Act.put,List.setIfInBounds_toArray,List.set_cons_zero,List.set_cons_succ]
     refine wpAnyH_done (by kernel_rfl) ?_ _
     have hfin:=h3.put4 (.bool va) (.int .i64 (n1:Int)) (.int .i64 (n2:Int)) (.int .i64 (n3:Int))
     have hbf:=ada (h:=w.heap.size) h1 (Nat.le_refl _) (.bool va) (.int .i64 (n1:Int)) (.int .i64 (n2:Int)) (.int .i64 (n3:Int))
     have hB2:B=decide (ep=s.data.toList.take 17):=by
      rw[←hB,ByteArray.toList_eq,an5,List.drop_zero,Nat.sub_zero]
      by_cases he:ep=s.data.toList.take 17
      ·rw[he];simp
      ·rw[decide_eq_false he,beq_eq_false_iff_ne];exact he
     have HB2:Hid _:=hB2
     unfold put4 at hfin hbf
     clear hB hB2
     generalize (((y.setCell ⟨w.heap.size,0,none⟩ (.bool va)).setCell ⟨w.heap.size,1,none⟩ (.int .i64 (n1:Int))).setCell ⟨w.heap.size,2,none⟩ (.int .i64 (n2:Int))).setCell ⟨w.heap.size,3,none⟩ (.int .i64 (n3:Int))=y2 at*
     go_wp2_with fail
     refine bodyPost_ret (ae0 hfin rfl rfl) rfl ?_
     refine⟨hbf,⟨va,n1,n2,n3⟩,B,rfl,?_⟩
     by_cases he:ep=s.data.toList.take 17
     ·exact .inl ⟨by rw[HB2.out];exact decide_eq_true he,HL17.out,HKT.out he⟩
     ·exact .inr ⟨by rw[HB2.out];exact decide_eq_false he,fun e' _=>HKF.out he e'⟩
    ·have HB:Hid _:=ao2 (l:=s.data.toList) (.inr (.inr e3))
     clear e3
     go_region
     go_wp2_with fail
     refine bodyPost_ret (ae0 ((show Blk W2.drew w.heap.size 131 _ from hr1).put4 _ _ _ _) rfl rfl) rfl ?_
     exact⟨ada hb2.drew (Nat.le_refl _) _ _ _ _,⟨va,_,_,_⟩,false,rfl,.inr ⟨rfl,HB.out⟩⟩
   ·have HB:Hid _:=ao2 (l:=s.data.toList) (.inr (.inl e2))
    clear e2
    go_region
    go_wp2_with fail
    refine bodyPost_ret (ae0 ((show Blk W2.drew w.heap.size 131 _ from hr1).put4 _ _ _ _) rfl rfl) rfl ?_
    exact⟨ada hb2.drew (Nat.le_refl _) _ _ _ _,⟨va,_,_,_⟩,false,rfl,.inr ⟨rfl,HB.out⟩⟩
  ·have HB:Hid _:=ao2 (l:=s.data.toList) (.inl e1)
   clear e1
   go_region
   go_wp2_with fail
   refine bodyPost_ret (ae0 ((show Blk W2.drew w.heap.size 131 _ from hr1).put4 _ _ _ _) rfl rfl) rfl ?_
   exact⟨ada hb2.drew (Nat.le_refl _) _ _ _ _,⟨va,_,_,_⟩,false,rfl,.inr ⟨rfl,HB.out⟩⟩
end Go.Proofs.YtfhpgmlfgjfknaaGreatDoor
