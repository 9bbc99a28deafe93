/- Contracts and lemmas (nothing is claimed here). -/
import Derived.Test.YtpfkoldfbecdlaaGreatDoorJ27
import Derived.Test.YtpfkoldfbecdlaaGreatDoorJ8
import Derived.Test.YtpfkoldfbecdlaaGreatDoorJ19
import Derived.Test.YtpfkoldfbecdlaaGreatDoorJ18
import Derived.Test.YtpfkoldfbecdlaaGreatDoorJ13
namespace Go.Proofs.YtpfkoldfbecdlaaGreatDoor
open Go.RowKit Go.Vf Go.Maps Go.Deep
def af7 (E:List Ent)(r:List Int):List El:=(acm E r).getD (impR (r.head?.getD 0))
def ad2 (E:List Ent)(rs:List (List Int)):List El:=rs.flatMap (af7 E)
theorem append_empty_els (w:World)(ty:TypeId)(ba:Option Addr)(n c:Nat)(hle:n≤c)(pa:Option Addr)(pc:Nat):(Builtin.append_ #[75,75] ty #[.slice ba n c,.slice pa 0 pc]).run Tryz.prog w=.ok (.slice ba n c) w:=by
 obtain⟨i,hi,hz,hsz,hby⟩:=info_parts info49
 cases pa with
 | none=>exact run_append_nothing (P:=Tryz.prog) w 75 75 ty 133 i Tryz.underlying75 hi ba n c hle _ (Src.ofNil w Tryz.underlying75 pc)
 | some ad=>exact run_append_nothing (P:=Tryz.prog) w 75 75 ty 133 i Tryz.underlying75 hi ba n c hle _ (Src.ofSlice w Tryz.underlying75 ad 0 pc [] (by simp) (by simp) (by simp))
theorem EOwn.cap {w:World}{base:Nat}{v:Value}{l:List El}(h:EOwn w base v l): ∃a c,v=.slice a l.length c∧l.length≤c:=by
 rcases h.2 with ⟨rfl,h0⟩ | ⟨g,cap,cur,rfl,_,_,h1,_⟩
 ·exact⟨none,0,by rw[h0],by omega⟩
 ·exact⟨_,cap,rfl,h1⟩
theorem ack {w:World}{ops:Array Oper}{rest:List Oper}{o:Oper}{a:Act}{Q:Exit→Act→World→Prop}(hgd:o.guard=none)(s x:Operand)
  (ho:o.op=.call {callee:=.builtin .append,args:= #[s,x],argTypes:= #[75,75]})
  (base:Nat) (v:Value) (zs:List El) (hs:a.eval s=v) (hown:EOwn w base v zs) (ys:List El) (n₀:Nat) (vx:Value) (hx:a.eval x=vx) (hin:Els n₀ w vx ys) (hlen:zs.length+ys.length≤4000000000000) (hbase:base≤w.heap.size)
  (h: ∀a' c' w',EOwn w' base (.slice a' (zs.length+ys.length) c') (zs++ys)→Below base w w'→w.grownBy w' v.ownBlock→wpList Tryz.prog ops Q rest (a.put o.dst (.slice a' (zs.length+ys.length) c')) w'):
  wpList Tryz.prog ops Q (o::rest) a w:=by
 by_cases hy:ys=[]
 ·subst hy
  obtain⟨pa,pc,rfl⟩: ∃pa pc,vx=.slice pa 0 pc:=by
   obtain⟨a,c,e⟩:=hin.val
   exact⟨a,c,e⟩
  obtain⟨ba,c,hv,hle⟩:=hown.cap
  have hr:=append_empty_els w o.type ba zs.length c hle pa pc
  refine wpList_plain hgd fun K hK=> ?_
  unfold Oper.wp execOp
  simp only[ho,resolve,invoke,builtin,Sem.run_bind,Sem.run_pure,Result.andThen_ok,List.map_toArray,List.map_cons,List.map_nil,hs,hx,hv,hr]
  subst hv
  exact hK _ _ (h ba c w (by rw[List.append_nil];exact hown) (Below.refl _ _) ⟨rfl,rfl,rfl,Nat.le_refl _,fun _ _ _=>rfl⟩)
 ·obtain⟨b,off,c,rfl⟩: ∃b off c,vx=.slice (some ⟨b,off,none⟩) ys.length c:=by
   rcases hin with ⟨_,_,_,e⟩ | ⟨b,off,c,e,hb,hc⟩
   ·exact absurd e hy
   ·exact⟨b,off,c,e⟩
  obtain⟨i,hi,hz,hsz,hby⟩:=info_parts info49
  refine wpList_append_own_at (P:=Tryz.prog) _ hgd s x 75 ho base 133 i _ 4 32 Tryz.underlying75 hi hz hsz hby rfl (by decide) v zs.length (elsV zs) hs hown ⟨b,off,none⟩ ys.length c (elsV ys) hx (by rw[afz]) ?_ (elsV_one ys) ?_ ?_ hbase ?_
  ·intro j u hu
   rw[show (⟨b,off,none⟩:Addr).add j=⟨b,off+j,none⟩ by simp[Addr.add]]
   exact els_flat hin j u hu
  ·unfold maxLen;omega
  ·omega
  ·intro v' w' h1 h2 _ _
   have h4:EOwn w' base v' (zs++ys):=by unfold EOwn;rw[elsV_append,List.length_append];exact h1
   obtain⟨a',c',hv,_⟩:=h4.cap
   rw[List.length_append] at hv
   subst hv
   exact h a' c' w' h4 ((Below.refl _ w).grown h2 hbase (fun j hj=>(aah hown hj).1)) h2
theorem len_le_sum: ∀(l:List (List Int)),∀r∈l,r.length≤(l.map List.length).sum:=by
 intro l
 induction l with
 | nil=>intro r hr;cases hr
 | cons a t ih=>
  intro r hr
  rw[List.map_cons,List.sum_cons]
  rcases List.mem_cons.1 hr with rfl | hr
  ·omega
  ·have:=ih r hr;omega
theorem stepsD_short {cls:Int→Int}{fnd:List Int→Bool}(X:List Int): ∀r∈aax cls fnd X,r.length≤X.length:=fun r hr=>by
 have:=len_le_sum _ r hr
 rw[stepsD_sum] at this
 exact this
theorem impR_len (n:Int):(impR n).length≤2:=by unfold impR;split<;>simp
theorem elOf_len {E:List Ent}(hok: ∀e∈E,EntOk e)(r:List Int):(af7 E r).length≤16:=by
 unfold af7
 cases hf:acm E r with
 | none=>have:=impR_len (r.head?.getD 0);simp;omega
 | some l=>exact(hok _ (afd hf)).n1
set_option maxHeartbeats 4000000 in
set_option maxRecDepth 20000 in
theorem elements_any {t:List UInt8}{L:List Mk}{F:Int→List Int}(h:aav t=.ok (L,F)){bd T me ml:Nat}{val:List Int→Value}{E:List Ent}{a:Option Addr}{k c:Nat}{zs X:List Int}{w:World}(hd:DataAt w bd L F)(ht:TabAt w T me ml val E)(hn:Numb w a k c zs)(hX:acq L F zs X)(hfew:zs.length≤1000000000)(hXl:X.length≤57000000000):
  Calls Tryz.prog 77 #[.pointer (some ⟨bd,0,none⟩),.pointer (some ⟨T,0,none⟩),.slice a k c] w fun e w'=> ∃v,e=.returned v∧EOwn w' w.heap.size v (ad2 E (aax (aaa L) (aaw E) X))∧Below w.heap.size w w':=by
 have hst:=steps_any h hd ht hn hX hfew
 have hrl:=abz (cls:=aaa L) (fnd:=aaw E) X
 have hrne:=stepsD_ne (cls:=aaa L) (fnd:=aaw E) X
 have hrsh:=stepsD_short (cls:=aaa L) (fnd:=aaw E) X
 generalize aax (aaa L) (aaw E) X=rs at hst hrl hrne hrsh⊢
 generalize hR:ad2 E rs=R
 have HR:Hid ([]++ad2 E (rs.drop 0)=R):=by show _=_;simpa using hR
 clear hR
 go_enter Tryz.func77,Tryz.ntmps77
 go_wp2_with fail
 refine hst.mono ?_
 rintro e w1 ⟨v1,rfl,hro,hb1⟩
 obtain⟨vs,hrow,hvs⟩:=hro
 obtain⟨ra,rc,rfl⟩:=aba hrow
 have ht1:=ht.below hb1
 clear hst
 go_wp2_with fail
 go_loopw [7,17] (fun lv iv wr=> ∃(i:Nat) (acc:List El),i≤rs.length∧iv=.int .i64 i∧Aside (EOwn wr w1.heap.size lv acc)∧Hid (acc++ad2 E (rs.drop i)=R)∧Hid (acc.length≤16*i∧ ∃a n c,lv=.slice a n c)∧Below w1.heap.size w1 wr) (fun _ iv _=>rs.length-(intOf iv).toNat)
 case atStart=>exact⟨0,[],by omega,rfl,EOwn.nil _ _,HR,⟨by simp,_,_,_,rfl⟩,Below.refl _ _⟩
 case round=>
  clear HR
  obtain⟨i,acc,hi,rfl,HO,HR,HA,hbr⟩:=hrel
  obtain⟨la,ln,lc,rfl⟩:=HA.out.2
  by_cases hlt:i<rs.length
  ·obtain⟨u,hu,hiu⟩:=hvs i hlt
   obtain⟨gr,hgr,hcu⟩: ∃gr,ra=some ⟨gr,0,none⟩∧w1.cell? ⟨gr,i,none⟩=some u:=by
    rcases hrow.2 with ⟨e,h0⟩ | ⟨g,cap,cur,e,_,hh,_,_,_,htk⟩
    ·omega
    ·cases e
     refine⟨g,rfl,?_⟩
     have hB:Blk w1 g 90 cur:=hh
     rw[hB.cell,←Array.getElem?_toList,←List.getElem?_take_of_lt (show i<rs.length*1 by omega),htk]
     exact hu
   subst hgr
   have hgl:gr<w1.heap.size:=World.block_lt_of_cell? w1 _ hcu
   have hcr:=(hbr.cell (p:=⟨gr,i,none⟩) hgl).trans hcu
   have hne:=hrne _ (List.getElem_mem hlt)
   have hir:IOwn wr w.heap.size u rs[i]:=aac hiu hbr
   have hdr:rs.drop i=rs[i]::rs.drop (i+1):=List.drop_eq_getElem_cons hlt
   have HR2:Hid ((acc++af7 E rs[i])++ad2 E (rs.drop (i+1))=R):=by
    show _=_
    rw[←HR.out,hdr,List.append_assoc]
    rfl
   have hel:=elOf_len ht.ok rs[i]
   have hrs8:=hrsh _ (List.getElem_mem hlt)
   generalize rs[i]=r at hne hir HR2 hel hrs8
   obtain⟨y,r',rfl⟩: ∃y r',r=y::r':=by
    cases r with
    | nil=>exact absurd rfl hne
    | cons y r'=>exact⟨y,r',rfl⟩
   obtain⟨ga,uc,rfl,hcy⟩: ∃ga uc,u=.slice (some ⟨ga,0,none⟩) (r'.length+1) uc∧wr.cell? ⟨ga,0,none⟩=some (.int .i64 y):=by
    rcases hir.form with ⟨_,e⟩ | ⟨g,cap,e,_,_,_,hc,_⟩
    ·cases e
    ·exact⟨g,cap,e,by simpa using hc 0 (by simp)⟩
   have htr:=ht1.below hbr
   have hfd:=find_any T me ml _ val E _ (y::r') wr htr (Nat.le_refl _) hir.ints (by omega)
   have hyel:af7 E (y::r')=(acm E (y::r')).getD (impR y):=rfl
   have hlen1:acc.length≤16*i:=HA.out.1
   rw[hyel] at HR2 hel
   generalize acm E (y::r')=fr at hfd HR2 hel
   clear hyel hir HR hrs8 hdr
   go_wp2_with fail
   refine hfd.mono ?_
   rintro e w3 ⟨hb3,hm3⟩
   have hs3:w1.heap.size≤w3.heap.size:=Nat.le_trans hbr.size hb3.size
   have HO3:Aside (EOwn w3 w1.heap.size (.slice la ln lc) acc):=aac HO.out hb3
   have hcy3:=(hb3.cell (p:=⟨ga,0,none⟩) (World.block_lt_of_cell? wr _ hcy)).trans hcy
   clear hfd HO hcr hcy
   cases fr with
   | none=>
    obtain rfl:e=_:=hm3
    simp only[Option.getD_none] at HR2 hel
    go_wp2_with fail
    refine(implied_any y w3).mono ?_
    rintro e w4 ⟨v4,rfl,hown4,hb4,_⟩
    have hs4:w1.heap.size≤w4.heap.size:=Nat.le_trans hs3 hb4.size
    have HO4:Aside (EOwn w4 w1.heap.size (.slice la ln lc) acc):=aac HO3.out hb4
    have HE4:Aside (Els w4.heap.size w4 v4 (impR y)):=EOwn.els hown4
    obtain⟨a4,c4,rfl,_⟩:=hown4.cap
    have hsum:acc.length+(impR y).length≤4000000000000:=by omega
    have hln:ln=acc.length:=by obtain⟨_,_,e,_⟩:=HO4.out.cap;exact(Value.slice.inj e).2.1
    subst hln
    generalize hii:impR y=ie at*
    clear hown4 HO3 hii
    go_wp2_with (first | (at_builtin;refine ack rfl _ _ rfl w1.heap.size _ acc rfl HO4.out ie _ _ rfl HE4.out hsum hs4 ?_;intro a5 c5 w5 hown5 hb5 _))
    have HO5:Aside (EOwn w5 w1.heap.size (.slice a5 (acc.length+ie.length) c5) (acc++ie)):=hown5
    have hb15:Below w1.heap.size w1 w5:=((hbr.trans (hb3.mono hbr.size)).trans (hb4.mono hs3)).trans hb5
    clear hown5
    go_roundw
    case rel=>exact⟨i+1,acc++ie,by omega,by simp,HO5,HR2,⟨by simp;omega,_,_,_,rfl⟩,hb15⟩
    case measure=>simp only[intOf];omega
   | some l=>
    obtain⟨a4,n4,c4,rfl,hown4⟩:=hm3
    simp only[Option.getD_some] at HR2 hel
    have HE4:Aside (Els w3.heap.size w3 (.slice a4 n4 c4) l):=EOwn.els hown4
    have hsum:acc.length+l.length≤4000000000000:=by omega
    have hln:ln=acc.length:=by obtain⟨_,_,e,_⟩:=HO3.out.cap;exact(Value.slice.inj e).2.1
    subst hln
    clear hown4
    go_wp2_with (first | (at_builtin;refine ack rfl _ _ rfl w1.heap.size _ acc rfl HO3.out l _ _ rfl HE4.out hsum hs3 ?_;intro a5 c5 w5 hown5 hb5 _))
    have HO5:Aside (EOwn w5 w1.heap.size (.slice a5 (acc.length+l.length) c5) (acc++l)):=hown5
    have hb15:Below w1.heap.size w1 w5:=(hbr.trans (hb3.mono hbr.size)).trans hb5
    clear hown5
    go_roundw
    case rel=>exact⟨i+1,acc++l,by omega,by simp,HO5,HR2,⟨by simp;omega,_,_,_,rfl⟩,hb15⟩
    case measure=>simp only[intOf];omega
  ·have hRR:R=acc:=by rw[←HR.out,List.drop_of_length_le (by omega)];simp[ad2]
   clear HR
   go_wp2_with fail
   go_ret
   rw[hRR]
   exact⟨_,rfl,aae HO.out hb1.size,hb1.trans (hbr.mono hb1.size)⟩
end Go.Proofs.YtpfkoldfbecdlaaGreatDoor
namespace Go.Proofs.YtpfkoldfbecdlaaGreatDoor
open Go.RowKit Go.Vf Go.Maps
theorem numB_pointS (u:Nat):acs adb 16 (aaj u) 0=some u:=by
 rw[aay,agv,Nat.mod_eq_of_lt (Nat.lt_of_lt_of_le (ads u _ (Nat.le_refl _)) (Nat.pow_le_pow_right (by omega) (by omega)))]
 simp
theorem pointS_span {n:Nat}(hn:n<16^6):4≤(aaj n).length∧(aaj n).length≤6:=by
 have h:=acr n 6 hn (by omega)
 rw[aay,ac8]
 omega
def NumOg (l:List UInt8)(x:Int)(b:Bool):Prop:=(b=true∧ ∃n:Nat,x=(n:Int)∧n<16^6∧l=aaj n)∨(b=false∧ ∀n:Nat,n<16^6→l≠aaj n)
theorem NumOg.bad {l:List UInt8}(h: ¬(4≤l.length∧l.length≤6)∨acs adb 16 l 0=none):NumOg l 0 false:=by
 refine .inr ⟨rfl,fun n hn e=> ?_⟩
 rcases h with h | h
 ·rw[e] at h;exact h (pointS_span hn)
 ·rw[e,numB_pointS] at h;cases h
theorem NumOg.done {l:List UInt8}{n:Nat}(h:acs adb 16 l 0=some n)(hn:n<16^6):NumOg l (n:Int) (decide (aaj n=l)):=by
 by_cases e:aaj n=l
 ·exact .inl ⟨by simp[e],n,rfl,hn,e.symm⟩
 ·refine .inr ⟨by simp[e],fun m _ hm=> ?_⟩
  rw[hm,numB_pointS] at h
  have:m=n:=by simpa using h
  subst this
  exact e hm.symm
def NumPog (l:List UInt8)(w:World)(e:Ending)(w':World):Prop:= ∃x b,e=.returned (.tuple #[.int .i64 x,.bool b])∧NumOg l x b∧w=w'
set_option maxHeartbeats 2000000 in
set_option maxRecDepth 20000 in
theorem number_any2 (s:ByteArray)(hs:s.size≤17179869184)(w:World):Calls Tryz.prog 105 #[.string s] w fun e w'=>NumPog s.data.toList w e w':=by
 have HSL:Hid (s.data.toList.length=s.size):=(Lib.size_eq s).symm
 by_cases h4:s.size<4
 ·have HB:Hid (NumOg s.data.toList 0 false):=NumOg.bad (.inl (by rw[HSL.out];omega))
  go_enter Tryz.func105,Tryz.ntmps105
  go_wp2_with fail
  refine bodyPost_ret (aas rfl rfl) rfl ?_
  exact⟨0,false,rfl,HB.out,rfl⟩
 ·by_cases h6:6<s.size
  ·have HB:Hid (NumOg s.data.toList 0 false):=NumOg.bad (.inl (by rw[HSL.out];omega))
   go_enter Tryz.func105,Tryz.ntmps105
   go_wp2_with fail
   refine bodyPost_ret (aas rfl rfl) rfl ?_
   exact⟨0,false,rfl,HB.out,rfl⟩
  ·go_enter Tryz.func105,Tryz.ntmps105
   go_wp2_with fail
   go_loopw [4,5,6] (fun x i _ wr=> ∃(k m:Nat),k≤s.size∧i=.int .i64 k∧x=.int .i64 (m:Int)∧m<16777216∧Hid (m<16^k∧acs adb 16 (s.data.toList.drop k) m=acs adb 16 s.data.toList 0)∧wr=w) (fun _ i _ _=>s.size-(intOf i).toNat)
   case atStart=>exact⟨0,0,by omega,rfl,rfl,by omega,⟨by simp,by simp⟩,rfl⟩
   case round=>
    obtain⟨k,m,hk,rfl,rfl,hm,HM,rfl⟩:=hrel
    by_cases hlt:k<s.size
    ·have hstep:=numB_at s k hlt m
     have hm6:m*16+15<16777216:=by
      have h1:=HM.out.1
      have h2:16^k≤16^5:=Nat.pow_le_pow_right (by omega) (by omega)
      omega
     have h256:(s[k]).toNat<256:=(s[k]).toNat_lt
     have HN:Hid (∀d,adb s[k]=some d→acs adb 16 (s.data.toList.drop (k+1)) (m*16+d)=acs adb 16 s.data.toList 0):=fun d hd=>by
      rw[←HM.out.2,hstep,hd]
     have HF:Hid (adb s[k]=none→acs adb 16 s.data.toList 0=none):=fun hd=>by
      rw[←HM.out.2,hstep,hd]
     have HP:Hid (∀d,d<16→m*16+d<16^(k+1)):=fun d hd=>by
      have h1:=HM.out.1
      rw[Nat.pow_succ];omega
     have hx:adb s[k]=if 65≤(s[k]).toNat∧(s[k]).toNat≤70 then some ((s[k]).toNat-55) else if 48≤(s[k]).toNat∧(s[k]).toNat≤57 then some ((s[k]).toNat-48) else none:=rfl
     have HX:Hid (adb s[k]=if 65≤(s[k]).toNat∧(s[k]).toNat≤70 then some ((s[k]).toNat-55) else if 48≤(s[k]).toNat∧(s[k]).toNat≤57 then some ((s[k]).toNat-48) else none):=hx
     clear hstep hx HM
     by_cases hA:65≤(s[k]).toNat∧(s[k]).toNat≤70
     ·obtain⟨hA1,hA2⟩:=hA
      go_wp2_with fail
      exact⟨⟨k+1,m*16+((s[k]).toNat-55),by omega,by go_num,congrArg (Value.int .i64) (by omega),by omega,⟨HP.out _ (by omega),HN.out _ (by rw[HX.out,if_pos ⟨hA1,hA2⟩])⟩,trivial⟩,by simp only[intOf];omega⟩
     ·by_cases hB:48≤(s[k]).toNat∧(s[k]).toNat≤57
      ·obtain⟨hB1,hB2⟩:=hB
       have HXB:Hid (adb s[k]=some ((s[k]).toNat-48)):=by show _=_;rw[HX.out,if_neg hA,if_pos ⟨hB1,hB2⟩]
       have hA': ¬65≤(s[k]).toNat:=by omega
       clear hA
       go_wp2_with fail
       exact⟨⟨k+1,m*16+((s[k]).toNat-48),by omega,by go_num,congrArg (Value.int .i64) (by omega),by omega,⟨HP.out _ (by omega),HN.out _ HXB.out⟩,trivial⟩,by simp only[intOf];omega⟩
      ·have HB:Hid (NumOg s.data.toList 0 false):=NumOg.bad (.inr (HF.out (by rw[HX.out,if_neg hA,if_neg hB])))
       clear HX HN HF HP
       by_cases h1:(s[k]).toNat<48
       ·clear hA hB
        go_wp2_with fail
        refine bodyPost_ret (aas rfl rfl) rfl ?_
        exact⟨0,false,rfl,HB.out,rfl⟩
       ·by_cases h2:70<(s[k]).toNat
        ·clear hA hB
         go_wp2_with fail
         refine bodyPost_ret (aas rfl rfl) rfl ?_
         exact⟨0,false,rfl,HB.out,rfl⟩
        ·have h3:57<(s[k]).toNat∧(s[k]).toNat<65:=by omega
         obtain⟨h3a,h3b⟩:=h3
         clear hA hB
         by_cases h4':64≤(s[k]).toNat
         ·skip
          go_wp2_with fail
          refine bodyPost_ret (aas rfl rfl) rfl ?_
          exact⟨0,false,rfl,HB.out,rfl⟩
         ·have h5:(s[k]).toNat≤63:=by omega
          go_wp2_with fail
          refine bodyPost_ret (aas rfl rfl) rfl ?_
          exact⟨0,false,rfl,HB.out,rfl⟩
    ·obtain rfl:k=s.size:=by omega
     have HNB:Hid (acs adb 16 s.data.toList 0=some m):=by
      show _=_
      rw[←HM.out.2,af0 s s.size (Nat.le_refl _)]
      rfl
     have hdm:=digits_any m (by omega) wr
     have HD:Hid (NumOg s.data.toList (m:Int) (decide (aaj m=s.data.toList))):=NumOg.done HNB.out (by omega)
     go_wp2_with fail
     refine hdm.mono ?_
     rintro e w1 ⟨rfl,rfl⟩
     go_wp2_with fail
     refine bodyPost_ret (aas rfl rfl) rfl ?_
     have e1:(aaj m==s.toList)=decide (aaj m=s.data.toList):=by rw[ByteArray.toList_eq];exact Bool.eq_iff_iff.2 (by simp)
     exact⟨m,decide (aaj m=s.data.toList),by rw[←e1];rfl,HD.out,rfl⟩
set_option maxHeartbeats 4000000 in
theorem refRight_any (e:El)(w:World):Calls Tryz.prog 54 #[elA e] w fun r w'=>r=.returned (.bool (aai e))∧Below w.heap.size w w':=by
 obtain⟨va,pr,se,te⟩:=e
 have hb0:=(Below.refl w.heap.size w).alloc (Nat.le_refl _) (.cells #[.bool va,.int .i64 pr,.int .i64 se,.int .i64 te] 133)
 by_cases h1:pr<0
 ·have d1:decide (pr<0)=true:=by simp;omega
  have hR:aai ⟨va,pr,se,te⟩=false:=by unfold aai wtB;simp;omega
  rw[hR]
  clear hR h1
  go_enter Tryz.func54,Tryz.ntmps54
  go_wp2
  go_ret
  exact⟨rfl,hb0⟩
 have d1:decide (pr<0)=false:=by simp;omega
 by_cases h2:64319<pr
 ·have d2:decide ((64319:Int)<pr)=true:=by simp;omega
  have hR:aai ⟨va,pr,se,te⟩=false:=by unfold aai wtB;simp;omega
  rw[hR]
  clear hR h1 h2
  go_enter Tryz.func54,Tryz.ntmps54
  go_wp2
  go_ret
  exact⟨rfl,hb0⟩
 have d2:decide ((64319:Int)<pr)=false:=by simp;omega
 by_cases h3:se<0
 ·have d3:decide (se<0)=true:=by simp;omega
  have hR:aai ⟨va,pr,se,te⟩=false:=by unfold aai wtB;simp;omega
  rw[hR]
  clear hR h1 h2 h3
  go_enter Tryz.func54,Tryz.ntmps54
  go_wp2
  go_ret
  exact⟨rfl,hb0⟩
 have d3:decide (se<0)=false:=by simp;omega
 by_cases h4:65535<se
 ·have d4:decide ((65535:Int)<se)=true:=by simp;omega
  have hR:aai ⟨va,pr,se,te⟩=false:=by unfold aai wtB;simp;omega
  rw[hR]
  clear hR h1 h2 h3 h4
  go_enter Tryz.func54,Tryz.ntmps54
  go_wp2
  go_ret
  exact⟨rfl,hb0⟩
 have d4:decide ((65535:Int)<se)=false:=by simp;omega
 by_cases h5:te<0
 ·have d5:decide (te<0)=true:=by simp;omega
  have hR:aai ⟨va,pr,se,te⟩=false:=by unfold aai wtB;simp;omega
  rw[hR]
  clear hR h1 h2 h3 h4 h5
  go_enter Tryz.func54,Tryz.ntmps54
  go_wp2
  go_ret
  exact⟨rfl,hb0⟩
 have d5:decide (te<0)=false:=by simp;omega
 by_cases h6:65535<te
 ·have d6:decide ((65535:Int)<te)=true:=by simp;omega
  have hR:aai ⟨va,pr,se,te⟩=false:=by unfold aai wtB;simp;omega
  rw[hR]
  clear hR h1 h2 h3 h4 h5 h6
  go_enter Tryz.func54,Tryz.ntmps54
  go_wp2
  go_ret
  exact⟨rfl,hb0⟩
 have d6:decide ((65535:Int)<te)=false:=by simp;omega
 by_cases p0:pr=0
 ·have q0:(pr !=0)=false:=by simp;omega
  by_cases s0:se=0
  ·have q1:(se !=0)=false:=by simp;omega
   have q2:(se==0)=true:=by simp;omega
   by_cases t0:te=0
   ·have q3:(te==0)=true:=by simp;omega
    cases va with
    | true=>
     have hR:aai ⟨true,pr,se,te⟩=false:=by unfold aai wtB;simp;omega
     rw[hR]
     clear hR h1 h2 h3 h4 h5 h6 p0 s0 t0
     go_enter Tryz.func54,Tryz.ntmps54
     go_wp2
     go_ret
     exact⟨rfl,hb0⟩
    | false=>
     have hR:aai ⟨false,pr,se,te⟩=true:=by unfold aai wtB;simp;omega
     rw[hR]
     clear hR h1 h2 h3 h4 h5 h6 p0 s0 t0
     go_enter Tryz.func54,Tryz.ntmps54
     go_wp2
     go_ret
     exact⟨rfl,hb0⟩
   ·have q3:(te==0)=false:=by simp;omega
    cases va with
    | true=>
     have hR:aai ⟨true,pr,se,te⟩=false:=by unfold aai wtB;simp;omega
     rw[hR]
     clear hR h1 h2 h3 h4 h5 h6 p0 s0 t0
     go_enter Tryz.func54,Tryz.ntmps54
     go_wp2
     go_ret
     exact⟨rfl,hb0⟩
    | false=>
     have hR:aai ⟨false,pr,se,te⟩=true:=by unfold aai wtB;simp;omega
     rw[hR]
     clear hR h1 h2 h3 h4 h5 h6 p0 s0 t0
     go_enter Tryz.func54,Tryz.ntmps54
     go_wp2
     go_ret
     exact⟨rfl,hb0⟩
  ·have q1:(se !=0)=true:=by simp;omega
   have q2:(se==0)=false:=by simp;omega
   by_cases t0:te=0
   ·have q3:(te==0)=true:=by simp;omega
    cases va with
    | true=>
     have hR:aai ⟨true,pr,se,te⟩=false:=by unfold aai wtB;simp;omega
     rw[hR]
     clear hR h1 h2 h3 h4 h5 h6 p0 s0 t0
     go_enter Tryz.func54,Tryz.ntmps54
     go_wp2
     go_ret
     exact⟨rfl,hb0⟩
    | false=>
     have hR:aai ⟨false,pr,se,te⟩=false:=by unfold aai wtB;simp;omega
     rw[hR]
     clear hR h1 h2 h3 h4 h5 h6 p0 s0 t0
     go_enter Tryz.func54,Tryz.ntmps54
     go_wp2
     go_ret
     exact⟨rfl,hb0⟩
   ·have q3:(te==0)=false:=by simp;omega
    cases va with
    | true=>
     have hR:aai ⟨true,pr,se,te⟩=false:=by unfold aai wtB;simp;omega
     rw[hR]
     clear hR h1 h2 h3 h4 h5 h6 p0 s0 t0
     go_enter Tryz.func54,Tryz.ntmps54
     go_wp2
     go_ret
     exact⟨rfl,hb0⟩
    | false=>
     have hR:aai ⟨false,pr,se,te⟩=true:=by unfold aai wtB;simp;omega
     rw[hR]
     clear hR h1 h2 h3 h4 h5 h6 p0 s0 t0
     go_enter Tryz.func54,Tryz.ntmps54
     go_wp2
     go_ret
     exact⟨rfl,hb0⟩
 ·have q0:(pr !=0)=true:=by simp;omega
  by_cases s0:se=0
  ·have q1:(se !=0)=false:=by simp;omega
   have q2:(se==0)=true:=by simp;omega
   by_cases t0:te=0
   ·have q3:(te==0)=true:=by simp;omega
    cases va with
    | true=>
     have hR:aai ⟨true,pr,se,te⟩=false:=by unfold aai wtB;simp;omega
     rw[hR]
     clear hR h1 h2 h3 h4 h5 h6 p0 s0 t0
     go_enter Tryz.func54,Tryz.ntmps54
     go_wp2
     go_ret
     exact⟨rfl,hb0⟩
    | false=>
     have hR:aai ⟨false,pr,se,te⟩=false:=by unfold aai wtB;simp;omega
     rw[hR]
     clear hR h1 h2 h3 h4 h5 h6 p0 s0 t0
     go_enter Tryz.func54,Tryz.ntmps54
     go_wp2
     go_ret
     exact⟨rfl,hb0⟩
   ·have q3:(te==0)=false:=by simp;omega
    cases va with
    | true=>
     have hR:aai ⟨true,pr,se,te⟩=false:=by unfold aai wtB;simp;omega
     rw[hR]
     clear hR h1 h2 h3 h4 h5 h6 p0 s0 t0
     go_enter Tryz.func54,Tryz.ntmps54
     go_wp2
     go_ret
     exact⟨rfl,hb0⟩
    | false=>
     have hR:aai ⟨false,pr,se,te⟩=false:=by unfold aai wtB;simp;omega
     rw[hR]
     clear hR h1 h2 h3 h4 h5 h6 p0 s0 t0
     go_enter Tryz.func54,Tryz.ntmps54
     go_wp2
     go_ret
     exact⟨rfl,hb0⟩
  ·have q1:(se !=0)=true:=by simp;omega
   have q2:(se==0)=false:=by simp;omega
   by_cases t0:te=0
   ·have q3:(te==0)=true:=by simp;omega
    cases va with
    | true=>
     have hR:aai ⟨true,pr,se,te⟩=false:=by unfold aai wtB;simp;omega
     rw[hR]
     clear hR h1 h2 h3 h4 h5 h6 p0 s0 t0
     go_enter Tryz.func54,Tryz.ntmps54
     go_wp2
     go_ret
     exact⟨rfl,hb0⟩
    | false=>
     have hR:aai ⟨false,pr,se,te⟩=false:=by unfold aai wtB;simp;omega
     rw[hR]
     clear hR h1 h2 h3 h4 h5 h6 p0 s0 t0
     go_enter Tryz.func54,Tryz.ntmps54
     go_wp2
     go_ret
     exact⟨rfl,hb0⟩
   ·have q3:(te==0)=false:=by simp;omega
    cases va with
    | true=>
     have hR:aai ⟨true,pr,se,te⟩=true:=by unfold aai wtB;simp;omega
     rw[hR]
     clear hR h1 h2 h3 h4 h5 h6 p0 s0 t0
     go_enter Tryz.func54,Tryz.ntmps54
     go_wp2
     go_ret
     exact⟨rfl,hb0⟩
    | false=>
     have hR:aai ⟨false,pr,se,te⟩=true:=by unfold aai wtB;simp;omega
     rw[hR]
     clear hR h1 h2 h3 h4 h5 h6 p0 s0 t0
     go_enter Tryz.func54,Tryz.ntmps54
     go_wp2
     go_ret
     exact⟨rfl,hb0⟩
theorem pointS_six (u:Nat)(hu:u<16^6):(aaj u).length≤6:=by
 have h:=acr u 6 hu (by omega)
 rw[aay,ac8]
 omega
set_option maxHeartbeats 4000000 in
set_option maxRecDepth 20000 in
theorem refElement_any (va:Bool)(pr se te:Nat)(hpr:pr≤65535)(hse:se≤65535)(hte:te≤65535)(w:World):
  Calls Tryz.prog 123 #[.agg #[.bool va,.int .i64 (pr:Int),.int .i64 (se:Int),.int .i64 (te:Int)]] w fun e w'=>e=.returned (.string (bsz (elP ⟨va,pr,se,te⟩)))∧Below w.heap.size w w':=by
 have hb0:=(Below.refl w.heap.size w).alloc (Nat.le_refl _) (.cells #[.bool va,.int .i64 (pr:Int),.int .i64 (se:Int),.int .i64 (te:Int)] 133)
 have hB:=Blk.new w 133 #[.bool va,.int .i64 (pr:Int),.int .i64 (se:Int),.int .i64 (te:Int)]
 have q0:=hB.cell 0
 have q1:=hB.cell 1
 have q2:=hB.cell 2
 have q3:=hB.cell 3
 have s1:(bsz (aaj pr)).size≤6:=by rw[ab8];exact pointS_six pr (by omega)
 have s2:(bsz (aaj se)).size≤6:=by rw[ab8];exact pointS_six se (by omega)
 have s3:(bsz (aaj te)).size≤6:=by rw[ab8];exact pointS_six te (by omega)
 obtain⟨F,hF⟩: ∃F:Nat→ByteArray,F=fun u=>bsz (aaj u):=⟨_,rfl⟩
 have hD: ∀(u:Nat) (W:World),u≤65535→Calls Tryz.prog 121 #[.int .i64 (u:Int)] W fun e w'=>e=.returned (.string (F u))∧w'=W:=fun u W hu=>by
  rw[hF]
  exact(digits_any u (by omega) W).mono fun e w' h=>⟨h.1,h.2.symm⟩
 have t1:(F pr).size≤6:=by rw[hF];exact s1
 have t2:(F se).size≤6:=by rw[hF];exact s2
 have t3:(F te).size≤6:=by rw[hF];exact s3
 have HF:Hid (F=fun u=>bsz (aaj u)):=hF
 clear hF s1 s2 s3 hB
 cases va with
 | false=>
  have HE:Hid ((⟨#[91]⟩:ByteArray)++⟨#[46]⟩++F pr++⟨#[46]⟩++F se++⟨#[46]⟩++F te++⟨#[93]⟩=bsz (elP ⟨false,pr,se,te⟩)):=by
   show _=_
   rw[HF.out]
   apply ByteArray.ext
   simp[elP]
  go_enter Tryz.func123,Tryz.ntmps123
  go_upto_region 4 with fail
  generalize w.alloc (.cells #[.bool false,.int .i64 (pr:Int),.int .i64 (se:Int),.int .i64 (te:Int)] 133)=W at hb0 q0 q1 q2 q3⊢
  go_quiet (first | (go_at_call 121;refine Calls.quiet_of_same (hD _ _ (by omega))))
  go_wp2
  go_ret
  refine⟨?_,hb0.trans ((agq W nq).mono hb0.size)⟩
  rw[←HE.out]
  rfl
 | true=>
  have HE:Hid ((⟨#[91]⟩:ByteArray)++⟨#[42]⟩++F pr++⟨#[46]⟩++F se++⟨#[46]⟩++F te++⟨#[93]⟩=bsz (elP ⟨true,pr,se,te⟩)):=by
   show _=_
   rw[HF.out]
   apply ByteArray.ext
   simp[elP]
  go_enter Tryz.func123,Tryz.ntmps123
  go_upto_region 4 with fail
  generalize w.alloc (.cells #[.bool true,.int .i64 (pr:Int),.int .i64 (se:Int),.int .i64 (te:Int)] 133)=W at hb0 q0 q1 q2 q3⊢
  go_quiet (first | (go_at_call 121;refine Calls.quiet_of_same (hD _ _ (by omega))))
  go_wp2
  go_ret
  refine⟨?_,hb0.trans ((agq W nq).mono hb0.size)⟩
  rw[←HE.out]
  rfl
end Go.Proofs.YtpfkoldfbecdlaaGreatDoor
