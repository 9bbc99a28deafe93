/- Contracts and lemmas (nothing is claimed here). -/
import Derived.Test.YtfhpgmlfgjfknaaGreatDoorJ17
namespace Go.Proofs.YtfhpgmlfgjfknaaGreatDoor
open Go.RowKit Go.Vf Go.Maps
theorem aat {tmps:Array Value}{w:World}{a b:Value}(t2:tmps[2]?.getD undef=a)(t3:tmps[3]?.getD undef=b):(results Tryz.f141 tmps).run Tryz.prog w=.ok (.tuple #[a,b]) w:=by
 simp[results,Tryz.results141,go_sem,t2,t3]
theorem ad0 {tmps:Array Value}{w:World}{a b:Value}(t2:tmps[2]?.getD undef=a)(t3:tmps[3]?.getD undef=b):(results Tryz.f138 tmps).run Tryz.prog w=.ok (.tuple #[a,b]) w:=by
 simp[results,Tryz.results138,go_sem,t2,t3]
theorem aiw {tmps:Array Value}{w:World}{a b:Value}(t2:tmps[2]?.getD undef=a)(t3:tmps[3]?.getD undef=b):(results Tryz.f139 tmps).run Tryz.prog w=.ok (.tuple #[a,b]) w:=by
 simp[results,Tryz.results139,go_sem,t2,t3]
theorem aes {a b:Nat}(h:aae a=aae b):a=b:=by
 have e: ∀u,acw ac8 16 (aae u) 0=some u:=fun u=>by
  rw[aay,ahj,Nat.mod_eq_of_lt (Nat.lt_of_lt_of_le (adz u _ (Nat.le_refl _)) (Nat.pow_le_pow_right (by omega) (by omega)))]
  simp
 have h1:=e a
 rw[h,e b] at h1
 simpa using h1.symm
def NumOf (l:List UInt8)(x:Int)(b:Bool):Prop:=(b=true∧ ∃n:Nat,x=(n:Int)∧n<16^6∧l=aae n)∨(b=false∧abe l=none)
theorem NumOf.bad {l:List UInt8}(h: ¬(4≤l.length∧l.length≤6)∨acw ac8 16 l 0=none):NumOf l 0 false:=by
 refine .inr ⟨rfl,?_⟩
 unfold abe
 split
 ·rename_i hs
  rcases h with h | h
  ·exact absurd ⟨by omega,by omega⟩ h
  ·rw[h]
 ·rfl
theorem NumOf.done {l:List UInt8}{n:Nat}(h:acw ac8 16 l 0=some n)(hn:n<16^6):NumOf l (n:Int) (decide (aae n=l)):=by
 by_cases e:aae n=l
 ·exact .inl ⟨by simp[e],n,rfl,hn,e.symm⟩
 ·refine .inr ⟨by simp[e],?_⟩
  cases hp:abe l with
  | none=>rfl
  | some p=>
   exfalso
   obtain⟨u,_,hu,_,hs⟩:=adi hp
   have h1:acw ac8 16 (aae u) 0=some u:=by
    rw[aay,ahj,Nat.mod_eq_of_lt (Nat.lt_of_lt_of_le (adz u _ (Nat.le_refl _)) (Nat.pow_le_pow_right (by omega) (by omega)))]
    simp
   rw[←hs,h] at h1
   have:n=u:=by simpa using h1
   subst this
   exact e hs.symm
def a62 (l:List UInt8)(w:World)(e:Ending)(w':World):Prop:= ∃x b,e=.returned (.tuple #[.int .i64 x,.bool b])∧NumOf l x b∧w=w'
theorem azn (s:ByteArray)(k:Nat)(hk:k<s.size)(m:Nat):acw ac8 16 (s.data.toList.drop k) m=match ac8 s[k] with
  | none=>none
  | some d=>acw ac8 16 (s.data.toList.drop (k+1)) (m*16+d):=by
 rw[aif s k hk]
 try rfl
set_option maxHeartbeats 2000000 in
set_option maxRecDepth 20000 in
theorem aw0 (s:ByteArray)(hs:s.size≤17179869184)(w:World):Calls Tryz.prog 141 #[.string s] w fun e w'=>a62 s.data.toList w e w':=by
 have HSL:Hid (s.data.toList.length=s.size):=(Lib.size_eq s).symm
 by_cases h4:s.size<4
 ·have HB:Hid (NumOf s.data.toList 0 false):=NumOf.bad (.inl (by rw[HSL.out];omega))
  go_enter Tryz.func141,Tryz.ntmps141
  go_wp2_with fail
  refine bodyPost_ret (aat rfl rfl) rfl ?_
  exact⟨0,false,rfl,HB.out,rfl⟩
 ·by_cases h6:6<s.size
  ·have HB:Hid (NumOf s.data.toList 0 false):=NumOf.bad (.inl (by rw[HSL.out];omega))
   go_enter Tryz.func141,Tryz.ntmps141
   go_wp2_with fail
   refine bodyPost_ret (aat rfl rfl) rfl ?_
   exact⟨0,false,rfl,HB.out,rfl⟩
  ·go_enter Tryz.func141,Tryz.ntmps141
   go_wp2_with fail
   go_loopw [4,5,6] (fun x i _ wr=> ∃(k m:Nat),k≤s.size∧i=.int .i64 k∧x=.int .i64 (m:Int)∧m<16777216∧Hid (m<16^k∧acw ac8 16 (s.data.toList.drop k) m=acw ac8 16 s.data.toList 0)∧wr=w) (fun _ i _ _=>s.size-(intOf i).toNat)
   case atStart=>exact⟨0,0,by omega,rfl,rfl,by omega,⟨by simp,by simp⟩,rfl⟩
   case round=>
    obtain⟨k,m,hk,rfl,rfl,hm,HM,rfl⟩:=hrel
    by_cases hlt:k<s.size
    ·have hstep:=azn s k hlt m
     have hm6:m*16+15<16777216:=by
      have h1:=HM.out.1
      have h2:16^k≤16^5:=Nat.pow_le_pow_right (by omega) (by omega)
      omega
     have h256:(s[k]).toNat<256:=(s[k]).toNat_lt
     have HN:Hid (∀d,ac8 s[k]=some d→acw ac8 16 (s.data.toList.drop (k+1)) (m*16+d)=acw ac8 16 s.data.toList 0):=fun d hd=>by
      rw[←HM.out.2,hstep,hd]
     have HF:Hid (ac8 s[k]=none→acw ac8 16 s.data.toList 0=none):=fun hd=>by
      rw[←HM.out.2,hstep,hd]
     have HP:Hid (∀d,d<16→m*16+d<16^(k+1)):=fun d hd=>by
      have h1:=HM.out.1
      rw[Nat.pow_succ];omega
     have hx:ac8 s[k]=if 65≤(s[k]).toNat∧(s[k]).toNat≤70 then some ((s[k]).toNat-55) else if 48≤(s[k]).toNat∧(s[k]).toNat≤57 then some ((s[k]).toNat-48) else none:=rfl
     have HX:Hid (ac8 s[k]=if 65≤(s[k]).toNat∧(s[k]).toNat≤70 then some ((s[k]).toNat-55) else if 48≤(s[k]).toNat∧(s[k]).toNat≤57 then some ((s[k]).toNat-48) else none):=hx
     clear hstep hx HM
     by_cases hA:65≤(s[k]).toNat∧(s[k]).toNat≤70
     ·obtain⟨hA1,hA2⟩:=hA
      go_wp2_with fail
      exact⟨⟨k+1,m*16+((s[k]).toNat-55),by omega,by go_num,congrArg (Value.int .i64) (by omega),by omega,⟨HP.out _ (by omega),HN.out _ (by rw[HX.out,if_pos ⟨hA1,hA2⟩])⟩,trivial⟩,by simp only[intOf];omega⟩
     ·by_cases hB:48≤(s[k]).toNat∧(s[k]).toNat≤57
      ·obtain⟨hB1,hB2⟩:=hB
       have HXB:Hid (ac8 s[k]=some ((s[k]).toNat-48)):=by show _=_;rw[HX.out,if_neg hA,if_pos ⟨hB1,hB2⟩]
       have hA': ¬65≤(s[k]).toNat:=by omega
       clear hA
       go_wp2_with fail
       exact⟨⟨k+1,m*16+((s[k]).toNat-48),by omega,by go_num,congrArg (Value.int .i64) (by omega),by omega,⟨HP.out _ (by omega),HN.out _ HXB.out⟩,trivial⟩,by simp only[intOf];omega⟩
      ·have HB:Hid (NumOf s.data.toList 0 false):=NumOf.bad (.inr (HF.out (by rw[HX.out,if_neg hA,if_neg hB])))
       clear HX HN HF HP
       by_cases h1:(s[k]).toNat<48
       ·clear hA hB
        go_wp2_with fail
        refine bodyPost_ret (aat rfl rfl) rfl ?_
        exact⟨0,false,rfl,HB.out,rfl⟩
       ·by_cases h2:70<(s[k]).toNat
        ·clear hA hB
         go_wp2_with fail
         refine bodyPost_ret (aat rfl rfl) rfl ?_
         exact⟨0,false,rfl,HB.out,rfl⟩
        ·have h3:57<(s[k]).toNat∧(s[k]).toNat<65:=by omega
         obtain⟨h3a,h3b⟩:=h3
         clear hA hB
         by_cases h4':64≤(s[k]).toNat
         ·skip
          go_wp2_with fail
          refine bodyPost_ret (aat rfl rfl) rfl ?_
          exact⟨0,false,rfl,HB.out,rfl⟩
         ·have h5:(s[k]).toNat≤63:=by omega
          go_wp2_with fail
          refine bodyPost_ret (aat rfl rfl) rfl ?_
          exact⟨0,false,rfl,HB.out,rfl⟩
    ·obtain rfl:k=s.size:=by omega
     have HNB:Hid (acw ac8 16 s.data.toList 0=some m):=by
      show _=_
      rw[←HM.out.2,agq s s.size (Nat.le_refl _)]
      try rfl
     have hdm:=aj0 m (by omega) wr
     have HD:Hid (NumOf s.data.toList (m:Int) (decide (aae m=s.data.toList))):=NumOf.done HNB.out (by omega)
     go_wp2_with fail
     refine hdm.mono ?_
     rintro e w1 ⟨rfl,rfl⟩
     go_wp2_with fail
     refine bodyPost_ret (aat rfl rfl) rfl ?_
     have e1:(aae m==s.toList)=decide (aae m=s.data.toList):=by rw[ByteArray.toList_eq];exact Bool.eq_iff_iff.2 (by simp)
     exact⟨m,decide (aae m=s.data.toList),by rw[←e1];rfl,HD.out,rfl⟩
def a47 (l:List UInt8)(w:World)(e:Ending)(w':World):Prop:= ∃x b,e=.returned (.tuple #[.int .i64 x,.bool b])∧((b=true∧abe l=some x)∨(b=false∧abe l=none))∧w=w'
set_option maxHeartbeats 2000000 in
set_option maxRecDepth 20000 in
theorem avb (s:ByteArray)(hs:s.size≤17179869184)(w:World):Calls Tryz.prog 138 #[.string s] w fun e w'=>a47 s.data.toList w e w':=by
 go_enter Tryz.func138,Tryz.ntmps138
 go_wp2_with fail
 refine(aw0 s hs w).mono ?_
 rintro e w1 ⟨x,b,rfl,hnum,rfl⟩
 rcases hnum with ⟨rfl,n,rfl,hn,hl⟩ | ⟨rfl,hno⟩
 ·have HL:Hid (s.data.toList=aae n):=hl
  clear hl
  have hP:=akd (n:Int) w
  have hS:=agz (n:Int) w
  cases g1:a0j (n:Int) with
  | false=>
   rw[g1] at hP
   have HN:Hid (abe s.data.toList=none):=by
    show _=_
    cases hp:abe s.data.toList with
    | none=>rfl
    | some p=>
     exfalso
     obtain⟨u,_,_,hm,hs'⟩:=adi hp
     have:=aes (HL.out.symm.trans hs')
     subst this
     rw[ate,g1] at hm
     simp at hm
   go_wp2_with fail
   refine hP.mono ?_
   rintro e w2 ⟨rfl,rfl⟩
   go_wp2_with fail
   refine bodyPost_ret (ad0 rfl rfl) rfl ?_
   exact⟨n,false,rfl,.inr ⟨rfl,HN.out⟩,rfl⟩
  | true=>
   rw[g1] at hP
   cases g2:ab7 (n:Int) with
   | true=>
    rw[g2] at hS
    have HN:Hid (abe s.data.toList=none):=by
     show _=_
     cases hp:abe s.data.toList with
     | none=>rfl
     | some p=>
      exfalso
      obtain⟨u,_,_,hm,hs'⟩:=adi hp
      have:=aes (HL.out.symm.trans hs')
      subst this
      rw[ate,g2] at hm
      simp at hm
    go_wp2_with fail
    refine hP.mono ?_
    rintro e w2 ⟨rfl,rfl⟩
    go_wp2_with fail
    refine hS.mono ?_
    rintro e w2 ⟨rfl,rfl⟩
    go_wp2_with fail
    refine bodyPost_ret (ad0 rfl rfl) rfl ?_
    exact⟨n,false,rfl,.inr ⟨rfl,HN.out⟩,rfl⟩
   | false=>
    rw[g2] at hS
    have HY:Hid (abe s.data.toList=some (n:Int)):=by
     show _=_
     rw[HL.out]
     refine age ?_ (by rw[ate,g1,g2];rfl)
     unfold a0j at g1
     simp at g1
     omega
    go_wp2_with fail
    refine hP.mono ?_
    rintro e w2 ⟨rfl,rfl⟩
    go_wp2_with fail
    refine hS.mono ?_
    rintro e w2 ⟨rfl,rfl⟩
    go_wp2_with fail
    refine bodyPost_ret (ad0 rfl rfl) rfl ?_
    exact⟨n,true,rfl,.inl ⟨rfl,HY.out⟩,rfl⟩
 ·have HN:Hid (abe s.data.toList=none):=hno
  clear hno
  go_wp2_with fail
  refine bodyPost_ret (ad0 rfl rfl) rfl ?_
  exact⟨x,false,rfl,.inr ⟨rfl,HN.out⟩,rfl⟩
def a19 (l:List UInt8)(w:World)(e:Ending)(w':World):Prop:= ∃x b,e=.returned (.tuple #[.int .i64 x,.bool b])∧((b=true∧aci l=some x)∨(b=false∧aci l=none))∧Below w.heap.size w w'
set_option maxHeartbeats 2000000 in
set_option maxRecDepth 20000 in
theorem aqj (s:ByteArray)(w:World):Calls Tryz.prog 139 #[.string s] w fun e w'=>a19 s.data.toList w e w':=by
 go_enter Tryz.func139,Tryz.ntmps139
 go_wp2_with fail
 go_loopw [4] (fun i wr=> ∃k:Nat,k≤255∧i=.int .i64 k∧Hid (∀c,c<k→Lib.itoa (c:Int)≠s.data.toList)∧Below w.heap.size w wr) (fun i _=>255-(intOf i).toNat)
 case atStart=>exact⟨0,by omega,rfl,fun c hc=>absurd hc (by omega),Below.refl _ _⟩
 case round=>
  obtain⟨k,hk,rfl,HK,hbel⟩:=hrel
  by_cases hlt:k≤254
  ·have ht:=a5x k hlt wr
   by_cases he:Lib.itoa (k:Int)=s.data.toList
   ·have HY:Hid (aci s.data.toList=some (k:Int)):=by
     show _=_
     rw[←he]
     exact(ags hlt).1
    have heq:(Lib.itoa (k:Int)==s.toList)=true:=by rw[ByteArray.toList_eq];simp[he]
    clear he
    go_wp2_with fail
    refine ht.mono ?_
    rintro e w1 ⟨rfl,hb1⟩
    go_wp2_with fail
    refine bodyPost_ret (aiw rfl rfl) rfl ?_
    exact⟨k,true,rfl,.inl ⟨rfl,HY.out⟩,hbel.trans (hb1.mono hbel.size)⟩
   ·have heq:(Lib.itoa (k:Int)==s.toList)=false:=by rw[ByteArray.toList_eq];simp[he]
    have HK2:Hid (∀c,c<k+1→Lib.itoa (c:Int)≠s.data.toList):=fun c hc=>by
     rcases Nat.lt_or_ge c k with h | h
     ·exact HK.out c h
     ·obtain rfl:c=k:=by omega
      exact he
    clear he HK
    go_wp2_with fail
    refine ht.mono ?_
    rintro e w1 ⟨rfl,hb1⟩
    go_wp2_with fail
    go_roundw
    case rel=>exact⟨k+1,by omega,by go_num,HK2,hbel.trans (hb1.mono hbel.size)⟩
    case measure=>simp only[intOf];omega
  ·have HN:Hid (aci s.data.toList=none):=by
    show _=_
    cases hc:aci s.data.toList with
    | none=>rfl
    | some x=>
     exfalso
     obtain⟨c,_,hc2,hs⟩:=alu hc
     exact HK.out c (by omega) hs.symm
   go_wp2_with fail
   refine bodyPost_ret (aiw rfl rfl) rfl ?_
   exact⟨0,false,rfl,.inr ⟨rfl,HN.out⟩,hbel⟩
theorem anc (s:ByteArray)(w:World):Calls Tryz.prog 94 #[.string s] w fun e w'=>e=.returned (.bool (aav s.data.toList))∧w=w':=by
 by_cases hemp:s.data.toList=[]
 ·have hemp':s.toList.isEmpty=true:=by rw[ByteArray.toList_eq,hemp];rfl
  go_enter Tryz.func94,Tryz.ntmps94
  go_wp2_with fail
  go_ret
  exact⟨by simp[aav,hemp],rfl⟩
 ·have hemp':s.toList.isEmpty=false:=by rw[ByteArray.toList_eq];simpa using hemp
  have hsz:0<s.size:=by rw[Lib.size_eq];exact List.length_pos_iff.2 hemp
  have hhd:=ae6 s hsz
  by_cases h35:(s[0]).toNat=35
  ·have h35':(((s[0]).toNat:Int)==35)=true:=by simp[h35]
   go_enter Tryz.func94,Tryz.ntmps94
   go_wp2_with fail
   go_ret
   have e:s[0]=35:=UInt8.toNat_inj.1 h35
   exact⟨by simp[aav,hhd,e],rfl⟩
  ·have h35':(((s[0]).toNat:Int)==35)=false:=by simp;omega
   go_enter Tryz.func94,Tryz.ntmps94
   go_wp2_with fail
   go_ret
   have e:s[0]≠35:=fun e=>h35 (by rw[e];rfl)
   exact⟨by simp[aav,hhd,e];simpa using hemp,rfl⟩
theorem a8y:(Tryz.prog.info? 9).map (fun i=>(i.zero,i.size,i.bytes))=some (some (.string ⟨#[]⟩),1,16):=by kernel_rfl
def SOwn (w:World)(base:Nat)(v:Value)(ss:List (List UInt8)):Prop:=w.ownsRow base 9 1 v ss.length (ss.map fun l=>Value.string (bsz l))
theorem SOwn.nil (w:World)(base:Nat):SOwn w base (.slice none 0 0) []:=World.ownsRow_nil _ _ _ _
theorem acm {w:World}{ops:Array Oper}{rest:List Oper}{o:Oper}{a:Act}{Q:Exit→Act→World→Prop}(hgd:o.guard=none)(s x:Operand)
  (ho:o.op=.call {callee:=.builtin .append,args:= #[s,x],argTypes:= #[119,119]})
  (base:Nat) (v:Value) (ss:List (List UInt8)) (hs:a.eval s=v) (hown:SOwn w base v ss) (t:ByteArray) (l:List UInt8) (ht:t=bsz l) (hx:a.eval x=.slice (some ⟨w.heap.size,0,none⟩) 1 1)
  (hlen:ss.length≤1099511627) (hbase:base≤w.heap.size)
  (h: ∀a' c' w',SOwn w' base (.slice a' (ss.length+1) c') (ss++[l])→(w.alloc (.cells #[.string t] 9)).grownBy w' v.ownBlock→wpList Tryz.prog ops Q rest (a.put o.dst (.slice a' (ss.length+1) c')) w'):
  wpList Tryz.prog ops Q (o::rest) a (w.alloc (.cells #[.string t] 9)):=by
 subst ht
 obtain⟨i,hi,hz,hsz,hby⟩:=info_parts a8y
 have hb:=Blk.new w 9 #[.string (bsz l)]
 refine wpList_append_own_at (P:=Tryz.prog) _ hgd s x 119 ho base 9 i _ 1 16 Tryz.underlying119 hi hz hsz hby rfl (by decide) v ss.length (ss.map fun l=>Value.string (bsz l)) hs (World.ownsRow.alloc hown _) ⟨w.heap.size,0,none⟩ 1 1 [.string (bsz l)] hx (by rfl) ?_ ?_ ?_ ?_ ?_ ?_
 ·intro j u hu
  match j,hu with
  | 0,hu=>simp at hu;subst hu;exact hb.cell 0
 ·intro u hu;simp at hu;subst hu;rfl
 ·unfold maxLen;omega
 ·omega
 ·simp;omega
 ·intro v' w' h1 h2 _ _
  obtain⟨a',c',rfl⟩:=aax h1
  exact h a' c' w' (by unfold SOwn;rw[List.length_append,List.map_append];exact h1) h2
theorem adw (s:ByteArray)(a b:Nat):s.extract a b=bsz ((s.data.toList.drop a).take (b-a)):=by
 apply ByteArray.ext
 apply Array.ext'
 simp[ByteArray.data_extract,List.extract_eq_take_drop]
structure CutAt (c:UInt8)(l:List UInt8)(fr k:Nat)(acc:List (List UInt8)):Prop where
 le:fr≤k
 no: ∀x∈(l.drop fr).take (k-fr),x≠c
 eq:acc++aa3 c (l.drop fr)=aa3 c l
theorem CutAt.step {c:UInt8}{l:List UInt8}{fr k:Nat}{acc:List (List UInt8)}(h:CutAt c l fr k acc)(hk:k<l.length)(hne:l[k]≠c):CutAt c l fr (k+1) acc:=by
 refine⟨by have:=h.le;omega,fun x hx=> ?_,h.eq⟩
 have hle:=h.le
 have e:(l.drop fr).take (k+1-fr)=(l.drop fr).take (k-fr)++[l[k]]:=by
  rw[show k+1-fr=(k-fr)+1 by omega,List.take_succ_eq_append_getElem (by rw[List.length_drop];omega),List.getElem_drop]
  congr 2
  congr 1
  omega
 rw[e] at hx
 rcases List.mem_append.1 hx with hx | hx
 ·exact h.no x hx
 ·simp at hx;subst hx;exact hne
theorem CutAt.cut {c:UInt8}{l:List UInt8}{fr k:Nat}{acc:List (List UInt8)}(h:CutAt c l fr k acc)(hk:k<l.length)(he:l[k]=c):CutAt c l (k+1) (k+1) (acc++[(l.drop fr).take (k-fr)]):=by
 have hle:=h.le
 refine⟨Nat.le_refl _,fun x hx=>by simp at hx,?_⟩
 have e:l.drop fr=(l.drop fr).take (k-fr)++c::l.drop (k+1):=by
  conv=>lhs;rw[←List.take_append_drop (k-fr) (l.drop fr)]
  rw[List.drop_drop,show fr+(k-fr)=k by omega,List.drop_eq_getElem_cons hk,he]
 have e2:=h.eq
 rw[e,ace c _ _ h.no] at e2
 rw[←e2]
 simp
theorem CutAt.last {c:UInt8}{l:List UInt8}{fr:Nat}{acc:List (List UInt8)}(h:CutAt c l fr l.length acc):acc++[(l.drop fr).take (l.length-fr)]=aa3 c l:=by
 have e:(l.drop fr).take (l.length-fr)=l.drop fr:=List.take_of_length_le (by rw[List.length_drop];omega)
 have h1:=h.no
 rw[e] at h1
 rw[e,←h.eq,ac9 c _ h1]
theorem CutAt.acc {c:UInt8}{l:List UInt8}{fr k:Nat}{acc:List (List UInt8)}(h:CutAt c l fr k acc):acc.length≤l.length+1:=by
 have:=congrArg List.length h.eq
 rw[List.length_append] at this
 have h2:=abl c l
 omega
set_option maxHeartbeats 4000000 in
set_option maxRecDepth 20000 in
theorem ahi (s:ByteArray)(c:UInt8)(hs:s.size≤65536)(w:World):Calls Tryz.prog 137 #[.string s,.int .u8 (c.toNat:Int)] w fun e w'=> ∃a k cap,e=.returned (.slice a k cap)∧SOwn w' w.heap.size (.slice a k cap) (aa3 c s.data.toList)∧Below w.heap.size w w':=by
 have HSL:Hid (s.data.toList.length=s.size):=(Lib.size_eq s).symm
 go_enter Tryz.func137,Tryz.ntmps137
 go_wp2_with fail
 go_loopw [5,6,7] (fun v x i wr=> ∃(k fr:Nat) (acc:List (List UInt8)),k≤s.size+1∧i=.int .i64 k∧x=.int .i64 fr∧SOwn wr w.heap.size v acc∧acc.length≤65540∧Hid ((k≤s.size∧CutAt c s.data.toList fr k acc)∨(k=s.size+1∧acc=aa3 c s.data.toList))∧Below w.heap.size w wr) (fun _ _ i _=>s.size+1-(intOf i).toNat)
 case atStart=>exact⟨0,0,[],by omega,rfl,rfl,SOwn.nil _ _,by simp,.inl ⟨by omega,Nat.le_refl _,by simp,by simp⟩,Below.refl _ _⟩
 case round=>
  obtain⟨k,fr,acc,hk,rfl,rfl,hown,hal,HC,hbel⟩:=hrel
  obtain⟨av,cv,rfl⟩:=aax hown
  have hbs:=hbel.size
  have hal':acc.length≤1099511627:=by omega
  by_cases hle:k≤s.size
  ·have HCA:Hid (CutAt c s.data.toList fr k acc):=by
    rcases HC.out with h | h
    ·exact h.2
    ·omega
   have hfk:=HCA.out.le
   clear HC
   by_cases hlt:k<s.size
   ·have hltl:k<s.data.toList.length:=by rw[HSL.out];exact hlt
    have hsk:s.data.toList[k]=s[k]:=rfl
    have hk1:((k:Int)==(s.size:Int))=false:=by simp;omega
    have h256:(s[k]).toNat<256:=(s[k]).toNat_lt
    by_cases hc:s[k]=c
    ·have ht:((s[k].toNat:Int)==(c.toNat:Int))=true:=by rw[hc];simp
     have HC2:Hid (CutAt c s.data.toList (k+1) (k+1) (acc++[(s.data.toList.drop fr).take (k-fr)])):=HCA.out.cut hltl (by rw[hsk];exact hc)
     have hacc:=HC2.out.acc
     rw[HSL.out] at hacc
     clear hc hsk
     go_wp2_with (first | (at_builtin;refine acm rfl _ _ rfl w.heap.size _ acc rfl hown _ _ (adw s fr k) rfl hal' hbs ?_;intro a5 c5 w5 hown5 hgr5))
     have hb5:Below w.heap.size w w5:=(hbel.alloc hbs _).grown hgr5 (by simp;omega) (fun j hj=>(aan hown hj).1)
     go_roundw
     case rel=>exact⟨k+1,k+1,_,by omega,by go_num,by go_num,hown5,by omega,.inl ⟨by omega,HC2.out⟩,hb5⟩
     case measure=>simp only[intOf];omega
    ·have ht:((s[k].toNat:Int)==(c.toNat:Int))=false:=by
      rw[beq_eq_false_iff_ne]
      intro e
      exact hc (UInt8.toNat_inj.1 (by omega))
     have HC2:Hid (CutAt c s.data.toList fr (k+1) acc):=HCA.out.step hltl (by rw[hsk];exact hc)
     clear hc hsk
     go_wp2_with fail
     go_roundw
     case rel=>exact⟨k+1,fr,acc,by omega,by go_num,rfl,hown,hal,.inl ⟨by omega,HC2.out⟩,hbel⟩
     case measure=>simp only[intOf];omega
   ·obtain rfl:k=s.size:=by omega
    have hacc:=HCA.out.acc
    rw[HSL.out] at hacc
    have HC2:Hid (acc++[(s.data.toList.drop fr).take (s.size-fr)]=aa3 c s.data.toList):=by
     have h:=HCA.out
     rw[←HSL.out] at h
     have:=h.last
     rwa [HSL.out] at this
    have hk1:((s.size:Int)==(s.size:Int))=true:=by simp
    go_wp2_with (first | (at_builtin;refine acm rfl _ _ rfl w.heap.size _ acc rfl hown _ _ (adw s fr s.size) rfl hal' hbs ?_;intro a5 c5 w5 hown5 hgr5))
    have hb5:Below w.heap.size w w5:=(hbel.alloc hbs _).grown hgr5 (by simp;omega) (fun j hj=>(aan hown hj).1)
    go_roundw
    case rel=>exact⟨s.size+1,s.size+1,_,by omega,by go_num,by go_num,hown5,by rw[List.length_append];simp;omega,.inr ⟨rfl,HC2.out⟩,hb5⟩
    case measure=>simp only[intOf];omega
  ·have HE:Hid (acc=aa3 c s.data.toList):=by
    rcases HC.out with h | h
    ·omega
    ·exact h.2
   go_wp2_with fail
   go_ret
   exact⟨_,_,_,rfl,by rw[←HE.out];exact hown,hbel⟩
set_option maxHeartbeats 4000000 in
set_option maxRecDepth 20000 in
theorem aj9 (s:ByteArray)(hs:s.size≤65536)(w:World):Calls Tryz.prog 93 #[.string s] w fun e w'=> ∃a k cap,e=.returned (.slice a k cap)∧SOwn w' w.heap.size (.slice a k cap) (aa3 (10:UInt8) s.data.toList)∧Below w.heap.size w w':=by
 have HSL:Hid (s.data.toList.length=s.size):=(Lib.size_eq s).symm
 go_enter Tryz.func93,Tryz.ntmps93
 go_wp2_with fail
 go_loopw [3,4,5] (fun v x i wr=> ∃(k fr:Nat) (acc:List (List UInt8)),k≤s.size+1∧i=.int .i64 k∧x=.int .i64 fr∧SOwn wr w.heap.size v acc∧acc.length≤65540∧Hid ((k≤s.size∧CutAt (10:UInt8) s.data.toList fr k acc)∨(k=s.size+1∧acc=aa3 (10:UInt8) s.data.toList))∧Below w.heap.size w wr) (fun _ _ i _=>s.size+1-(intOf i).toNat)
 case atStart=>exact⟨0,0,[],by omega,rfl,rfl,SOwn.nil _ _,by simp,.inl ⟨by omega,Nat.le_refl _,by simp,by simp⟩,Below.refl _ _⟩
 case round=>
  obtain⟨k,fr,acc,hk,rfl,rfl,hown,hal,HC,hbel⟩:=hrel
  obtain⟨av,cv,rfl⟩:=aax hown
  have hbs:=hbel.size
  have hal':acc.length≤1099511627:=by omega
  by_cases hle:k≤s.size
  ·have HCA:Hid (CutAt (10:UInt8) s.data.toList fr k acc):=by
    rcases HC.out with h | h
    ·exact h.2
    ·omega
   have hfk:=HCA.out.le
   clear HC
   by_cases hlt:k<s.size
   ·have hltl:k<s.data.toList.length:=by rw[HSL.out];exact hlt
    have hsk:s.data.toList[k]=s[k]:=rfl
    have hk1:((k:Int)==(s.size:Int))=false:=by simp;omega
    have h256:(s[k]).toNat<256:=(s[k]).toNat_lt
    by_cases hc:s[k]=(10:UInt8)
    ·have ht:((s[k].toNat:Int)==10)=true:=by rw[hc];simp
     have HC2:Hid (CutAt (10:UInt8) s.data.toList (k+1) (k+1) (acc++[(s.data.toList.drop fr).take (k-fr)])):=HCA.out.cut hltl (by rw[hsk];exact hc)
     have hacc:=HC2.out.acc
     rw[HSL.out] at hacc
     clear hc hsk
     go_wp2_with (first | (at_builtin;refine acm rfl _ _ rfl w.heap.size _ acc rfl hown _ _ (adw s fr k) rfl hal' hbs ?_;intro a5 c5 w5 hown5 hgr5))
     have hb5:Below w.heap.size w w5:=(hbel.alloc hbs _).grown hgr5 (by simp;omega) (fun j hj=>(aan hown hj).1)
     go_roundw
     case rel=>exact⟨k+1,k+1,_,by omega,by go_num,by go_num,hown5,by omega,.inl ⟨by omega,HC2.out⟩,hb5⟩
     case measure=>simp only[intOf];omega
    ·have ht:((s[k].toNat:Int)==10)=false:=by
      rw[beq_eq_false_iff_ne]
      intro e
      exact hc (UInt8.toNat_inj.1 (by have:((10:UInt8).toNat)=10:=rfl;omega))
     have HC2:Hid (CutAt (10:UInt8) s.data.toList fr (k+1) acc):=HCA.out.step hltl (by rw[hsk];exact hc)
     clear hc hsk
     go_wp2_with fail
     go_roundw
     case rel=>exact⟨k+1,fr,acc,by omega,by go_num,rfl,hown,hal,.inl ⟨by omega,HC2.out⟩,hbel⟩
     case measure=>simp only[intOf];omega
   ·obtain rfl:k=s.size:=by omega
    have hacc:=HCA.out.acc
    rw[HSL.out] at hacc
    have HC2:Hid (acc++[(s.data.toList.drop fr).take (s.size-fr)]=aa3 (10:UInt8) s.data.toList):=by
     have h:=HCA.out
     rw[←HSL.out] at h
     have:=h.last
     rwa [HSL.out] at this
    have hk1:((s.size:Int)==(s.size:Int))=true:=by simp
    go_wp2_with (first | (at_builtin;refine acm rfl _ _ rfl w.heap.size _ acc rfl hown _ _ (adw s fr s.size) rfl hal' hbs ?_;intro a5 c5 w5 hown5 hgr5))
    have hb5:Below w.heap.size w w5:=(hbel.alloc hbs _).grown hgr5 (by simp;omega) (fun j hj=>(aan hown hj).1)
    go_roundw
    case rel=>exact⟨s.size+1,s.size+1,_,by omega,by go_num,by go_num,hown5,by rw[List.length_append];simp;omega,.inr ⟨rfl,HC2.out⟩,hb5⟩
    case measure=>simp only[intOf];omega
  ·have HE:Hid (acc=aa3 (10:UInt8) s.data.toList):=by
    rcases HC.out with h | h
    ·omega
    ·exact h.2
   go_wp2_with fail
   go_ret
   exact⟨_,_,_,rfl,by rw[←HE.out];exact hown,hbel⟩
def av8 (l:List UInt8)(w:World)(e:Ending)(w':World):Prop:=Below w.heap.size w w'∧match acj l with
 | none=> ∃p k a n cap,e=.returned (.tuple #[.agg #[.int .i64 p,.int .i64 k,.slice a n cap],.bool false])
 | some (p,k,ps)=> ∃a n cap,e=.returned (.tuple #[.agg #[.int .i64 p,.int .i64 k,.slice a n cap],.bool true])∧IOwn w' w.heap.size (.slice a n cap) ps
theorem ac5 {tmps:Array Value}{w:World}{h:Nat}{x y z b:Value}(hb:Blk w h 153 #[x,y,z])(t2:tmps[2]?.getD undef=.pointer (some ⟨h,0,none⟩))(t3:tmps[3]?.getD undef=b):
  (results Tryz.f95 tmps).run Tryz.prog w=.ok (.tuple #[.agg #[x,y,z],b]) w:=by
 have c0:w.cell? ⟨h,0,none⟩=some x:=hb.cell 0
 have c1:w.cell? ⟨h,1,none⟩=some y:=hb.cell 1
 have c2:w.cell? ⟨h,2,none⟩=some z:=hb.cell 2
 simp[results,Tryz.results95,go_sem,t2,t3,c0,c1,c2]
theorem SOwn.cells {w:World}{base:Nat}{v:Value}{ss:List (List UInt8)}(h:SOwn w base v ss)(hne:0<ss.length): ∃g cap,v=.slice (some ⟨g,0,none⟩) ss.length cap∧g<w.heap.size∧base≤g∧ ∀j (hj:j<ss.length),w.cell? ⟨g,j,none⟩=some (.string (bsz ss[j])):=by
 rcases h.2 with ⟨_,h0⟩ | ⟨g,cap,cur,hv,hb,hg,hc,hm,hs,ht⟩
 ·omega
 ·refine⟨g,cap,hv,(Array.getElem?_eq_some_iff.1 hg).1,hb,fun j hj=> ?_⟩
  have hu:(ss.map fun l=>Value.string (bsz l))[j]? =some (.string (bsz ss[j])):=by simp[hj]
  rw[←ht] at hu
  have hj2:=(List.getElem?_eq_some_iff.1 hu).1
  rw[List.getElem?_take_of_lt (by rw[List.length_take] at hj2;omega)] at hu
  simp only[World.cell?,hg]
  simpa using hu
theorem awv (cs:List (List UInt8))(j:Nat)(hj:j<cs.length):aa2 (cs.drop j)=match abe cs[j] with
  | none=>none
  | some p=>match aa2 (cs.drop (j+1)) with
   | none=>none
   | some l=>some (p::l):=by
 rw[List.drop_eq_getElem_cons hj,aa2]
 cases abe cs[j] with
 | none=>rfl
 | some p=>cases aa2 (cs.drop (j+1))<;>rfl
def aon (acc:List Int):Option (List Int)→Option (List Int)
 | none=>none
 | some r=>some (acc++r)
theorem ath {l:List UInt8}(h:(aa3 59 l).length≠3):acj l=none:=by
 unfold acj akl
 split
 ·rename_i a b c e
  rw[e] at h
  simp at h
 ·rfl
theorem atg {l a b c:List UInt8}(h:aa3 59 l=[a,b,c]):acj l=match abe a with
  | none=>none
  | some p=>match aci b with
   | none=>none
   | some k=>match ad5 c with
    | none=>none
    | some ps=>some (p,k,ps):=by
 unfold acj
 rw[h]
 try rfl
set_option maxHeartbeats 4000000 in
set_option maxRecDepth 20000 in
theorem asy (s:ByteArray)(hs:s.size≤65536)(w:World):Calls Tryz.prog 95 #[.string s] w fun e w'=>av8 s.data.toList w e w':=by
 have hb0:=((Below.refl w.heap.size w).alloc (Nat.le_refl _) (.cells #[.int .i64 0,.int .i64 0,.slice none 0 0] 153)).alloc (by simp) (.cells #[.int .i64 0,.int .i64 0,.slice none 0 0] 153)
 have hn1:Blk ((w.alloc (.cells #[.int .i64 0,.int .i64 0,.slice none 0 0] 153)).alloc (.cells #[.int .i64 0,.int .i64 0,.slice none 0 0] 153)) w.heap.size 153 #[.int .i64 0,.int .i64 0,.slice none 0 0]:=(Below.heap_alloc _ _ _ (by simp)).trans (Blk.new w 153 _)
 have hn2:Blk ((w.alloc (.cells #[.int .i64 0,.int .i64 0,.slice none 0 0] 153)).alloc (.cells #[.int .i64 0,.int .i64 0,.slice none 0 0] 153)) (w.heap.size+1) 153 #[.int .i64 0,.int .i64 0,.slice none 0 0]:=by
  have:=Blk.new (w.alloc (.cells #[.int .i64 0,.int .i64 0,.slice none 0 0] 153)) 153 #[.int .i64 0,.int .i64 0,.slice none 0 0]
  simpa using this
 have hsz:((w.alloc (.cells #[.int .i64 0,.int .i64 0,.slice none 0 0] 153)).alloc (.cells #[.int .i64 0,.int .i64 0,.slice none 0 0] 153)).heap.size=w.heap.size+2:=by simp
 go_enter Tryz.func95,Tryz.ntmps95
 go_upto_region 2 with fail
 generalize (w.alloc (.cells #[.int .i64 0,.int .i64 0,.slice none 0 0] 153)).alloc (.cells #[.int .i64 0,.int .i64 0,.slice none 0 0] 153)=W at hb0 hn1 hn2 hsz⊢
 have HSZ:Hid (W.heap.size=w.heap.size+2):=hsz
 clear hsz
 have hcut:=ahi s 59 hs W
 go_wp2_with fail
 refine hcut.mono ?_
 rintro e w1 ⟨a1,k1,c1,rfl,hown1,hb1⟩
 have hr1:=hn1.below hb1 hn1.lt
 have hm1:=hn2.below hb1 hn2.lt
 have hbw1:Below w.heap.size w w1:=hb0.trans (hb1.mono hb0.size)
 have hW1:w.heap.size+2≤w1.heap.size:=by have:=hb1.size;rw[HSZ.out] at this;exact this
 have hk1:k1=(aa3 59 s.data.toList).length:=by obtain⟨_,_,e⟩:=aax hown1;cases e;rfl
 have HSS:Hid (∀x∈aa3 59 s.data.toList,x.length≤65536):=fun x hx=>Nat.le_trans (abj 59 _ x hx) (by rw[←Lib.size_eq];exact hs)
 by_cases h3:k1=3
 ·rw[h3] at hk1
  obtain⟨ta,tb,tc,hcl⟩: ∃ta tb tc,aa3 59 s.data.toList=[ta,tb,tc]:=aw7 hk1.symm
  have HMR:=atg hcl
  have HM:Hid (acj s.data.toList=match abe ta with
   | none=>none
   | some p=>match aci tb with
    | none=>none
    | some k=>match ad5 tc with
     | none=>none
     | some ps=>some (p,k,ps)):=HMR
  have hza:=HSS.out ta (by rw[hcl];simp)
  have hzb:=HSS.out tb (by rw[hcl];simp)
  have hzc:=HSS.out tc (by rw[hcl];simp)
  rw[hcl] at hown1
  obtain⟨g,cp,e1,hg,hgW,hcells⟩:=hown1.cells (by simp)
  rw[HSZ.out] at hgW
  cases e1
  have q0:=hcells 0 (by simp)
  have q1:=hcells 1 (by simp)
  have q2:=hcells 2 (by simp)
  simp only[List.getElem_cons_zero,List.getElem_cons_succ] at q0 q1 q2
  clear hcells hk1 hcl HMR hown1 HSS hn1 hn2 hcut h3
  have hpa:=avb (bsz ta) (by rw[abt];omega) w1
  obtain⟨⟨r0,r1,r2⟩,rz0,rz1,rz2⟩:=abm hr1
  obtain⟨⟨m0,m1,m2⟩,mz0,mz1,mz2⟩:=abm hm1
  go_wp2_with fail
  refine hpa.mono ?_
  rintro e w2 ⟨x,bx,rfl,hx,rfl⟩
  have hcb:=aqj (bsz tb) w1
  go_wp2_with fail
  refine hcb.mono ?_
  rintro e w3 ⟨y,yb,rfl,hy,hb3⟩
  have hx':(bx=true∧abe ta=some x)∨(bx=false∧abe ta=none):=by simpa using hx
  have hy':(yb=true∧aci tb=some y)∨(yb=false∧aci tb=none):=by simpa using hy
  have hr3:=hr1.below hb3 hr1.lt
  have hm3:=hm1.below hb3 hm1.lt
  have hbw3:=hbw1.trans (hb3.mono hbw1.size)
  have k2:=(hb3.cell (p:=⟨g,2,none⟩) hg).trans q2
  have hW3:w.heap.size+2≤w3.heap.size:=Nat.le_trans hW1 hb3.size
  clear hx hy hpa hcb r0 r1 r2 rz0 rz1 rz2 m0 m1 m2 mz0 mz1 mz2 q0 q1 q2
  obtain⟨⟨r0,r1,r2⟩,rz0,rz1,rz2⟩:=abm hr3
  obtain⟨⟨m0,m1,m2⟩,mz0,mz1,mz2⟩:=abm hm3
  rcases hx' with ⟨rfl,hx'⟩ | ⟨rfl,hx'⟩
  ·rcases hy' with ⟨rfl,hy'⟩ | ⟨rfl,hy'⟩
   ·rw[hx',hy'] at HM
    clear hx' hy'
    have hm4:Blk ((w3.setCell ⟨w.heap.size+1,0,none⟩ (.int .i64 x)).setCell ⟨w.heap.size+1,1,none⟩ (.int .i64 y)) (w.heap.size+1) 153 #[.int .i64 x,.int .i64 y,.slice none 0 0]:=(hm3.set 0 (.int .i64 x)).set 1 (.int .i64 y)
    have hr4:Blk ((w3.setCell ⟨w.heap.size+1,0,none⟩ (.int .i64 x)).setCell ⟨w.heap.size+1,1,none⟩ (.int .i64 y)) w.heap.size 153 #[.int .i64 0,.int .i64 0,.slice none 0 0]:=hr3.below (((Below.refl (w.heap.size+1) w3).setCell (Nat.le_refl _) _).setCell (Nat.le_refl _) _) (by omega)
    have hbw4:Below w.heap.size w ((w3.setCell ⟨w.heap.size+1,0,none⟩ (.int .i64 x)).setCell ⟨w.heap.size+1,1,none⟩ (.int .i64 y)):=(hbw3.setCell (by show w.heap.size≤w.heap.size+1;omega) _).setCell (by show w.heap.size≤w.heap.size+1;omega) _
    have hg4:((w3.setCell ⟨w.heap.size+1,0,none⟩ (.int .i64 x)).setCell ⟨w.heap.size+1,1,none⟩ (.int .i64 y)).heap[g]? =w3.heap[g]?:=(Below.heap_setCell _ ⟨w.heap.size+1,1,none⟩ _ g (by show g≠w.heap.size+1;omega)).trans (Below.heap_setCell _ ⟨w.heap.size+1,0,none⟩ _ g (by show g≠w.heap.size+1;omega))
    have k4:((w3.setCell ⟨w.heap.size+1,0,none⟩ (.int .i64 x)).setCell ⟨w.heap.size+1,1,none⟩ (.int .i64 y)).cell? ⟨g,2,none⟩=some (.string (bsz tc)):=by
     rw[←k2]
     simp only[World.cell?,hg4]
    have hW4:w.heap.size+2≤((w3.setCell ⟨w.heap.size+1,0,none⟩ (.int .i64 x)).setCell ⟨w.heap.size+1,1,none⟩ (.int .i64 y)).heap.size:=by
     simpa[World.setCell] using hW3
    clear hg4 k2 hb3 hm1 hr1 hb1
    go_upto_region 11 with fail
    generalize (w3.setCell ⟨w.heap.size+1,0,none⟩ (.int .i64 x)).setCell ⟨w.heap.size+1,1,none⟩ (.int .i64 y)=w4 at hm4 hr4 hbw4 k4 hW4⊢
    clear r0 r1 r2 rz0 rz1 rz2 m0 m1 m2 mz0 mz1 mz2 hr3 hm3 hbw3 hbw1 hW1 hW3
    obtain⟨⟨r0,r1,r2⟩,rz0,rz1,rz2⟩:=abm hr4
    obtain⟨⟨m0,m1,m2⟩,mz0,mz1,mz2⟩:=abm hm4
    by_cases hemp:tc=[]
    ·subst hemp
     have HY:Hid (acj s.data.toList=some (x,y,[])):=by show _=_;rw[HM.out];rfl
     clear HM
     go_wp2_with fail
     refine bodyPost_ret (ac5 (hr4.set3 _ _ _) rfl rfl) rfl ?_
     exact⟨hbw4.trans (abd (Nat.le_refl _)),by rw[HY.out];exact⟨none,0,0,rfl,IOwn.nil _ _⟩⟩
    ·have hemp':(bsz tc).toList.isEmpty=false:=by rw[ByteArray.toList_eq];simpa using hemp
     have hemp2:tc.isEmpty=false:=by simpa using hemp
     have HMP:Hid (acj s.data.toList=match aa2 (aa3 32 tc) with
      | none=>none
      | some ps=>some (x,y,ps)):=by
      show _=_
      rw[HM.out]
      unfold ad5
      rw[if_neg hemp]
     clear HM
     have hcut2:=ahi (bsz tc) 32 (by rw[abt];exact hzc) w4
     clear r0 r1 r2 rz0 rz1 rz2 m0 m1 m2 mz0 mz1 mz2
     go_wp2_with fail
     refine hcut2.mono ?_
     rintro e w5 ⟨a5,k5,c5,rfl,hown5,hb5⟩
     have hown5':SOwn w5 w4.heap.size (.slice a5 k5 c5) (aa3 32 tc):=hown5
     have hcz: ∀x∈aa3 32 tc,x.length≤65536:=fun x hx=>Nat.le_trans (abj 32 _ x hx) hzc
     have hcl2:=abl 32 tc
     have hcpos:0<(aa3 32 tc).length:=List.length_pos_iff.2 (aig 32 tc)
     generalize aa3 32 tc=cs at hown5' hcz hcl2 hcpos HMP
     obtain⟨g5,cp5,e5,hg5,hgW5,hcell5⟩:=hown5'.cells hcpos
     simp only[Value.slice.injEq] at e5
     obtain⟨rfl,hk5,rfl⟩:=e5
     have HK5:Hid (k5=cs.length):=hk5
     have hr5:=hr4.below hb5 hr4.lt
     have hm5:=hm4.below hb5 hm4.lt
     have hbw5:=hbw4.trans (hb5.mono hbw4.size)
     have hk5l:k5≤65537:=by rw[hk5];omega
     have hW5:w.heap.size+2≤w5.heap.size:=Nat.le_trans hW4 hb5.size
     have HCS:Hid (∀x:World,(∀k,k<w5.heap.size→k≠w.heap.size+1→x.heap[k]? =w5.heap[k]?)→(Blk x w.heap.size 153 #[.int .i64 0,.int .i64 0,.slice none 0 0]∧ ∀j (hj:j<cs.length),x.cell? ⟨g5,j,none⟩=some (.string (bsz cs[j])))):=fun x hx=>⟨(hx _ (by omega) (by omega)).trans hr5,fun j hj=>by
      rw[←hcell5 j hj]
      simp only[World.cell?,hx g5 hg5 (by omega)]⟩
     clear hown5 hown5' hcut2 hk5 hcell5 k4 hr4 hm4 hr5 hcpos hcl2 hb5
     go_wp2_with fail
     go_loopw [11,12,13] (fun i _ _ wr=> ∃(j:Nat) (acc:List Int) (av:Option Addr) (ac:Nat),j≤k5∧i=.int .i64 j∧acc.length=j∧Blk wr (w.heap.size+1) 153 #[.int .i64 x,.int .i64 y,.slice av acc.length ac]∧IOwn wr w5.heap.size (.slice av acc.length ac) acc∧Hid (aa2 cs=aon acc (aa2 (cs.drop j)))∧(∀k,k<w5.heap.size→k≠w.heap.size+1→wr.heap[k]? =w5.heap[k]?)∧Below w.heap.size w wr∧w5.heap.size≤wr.heap.size) (fun i _ _ _=>k5-(intOf i).toNat)
     case atStart=>exact⟨0,[],none,0,by omega,rfl,rfl,hm5,IOwn.nil _ _,by show _=_;rw[List.drop_zero];cases aa2 cs<;>rfl,fun _ _ _=>rfl,hbw5,Nat.le_refl _⟩
     case round=>
      obtain⟨j,acc,av,ac,hj,rfl,haj,hmr,hown,HP,hkp,hbel,hsz⟩:=hrel
      have HAJ:Hid (acc.length=j):=haj
      clear haj
      obtain⟨hrr,hcell⟩:=HCS.out wr hkp
      obtain⟨⟨r0,r1,r2⟩,rz0,rz1,rz2⟩:=abm hrr
      obtain⟨⟨m0,m1,m2⟩,mz0,mz1,mz2⟩:=abm hmr
      by_cases hlt:j<k5
      ·have hltc:j<cs.length:=by rw[←HK5.out];exact hlt
       have hcj:=hcell j hltc
       have hzj:=hcz _ (List.getElem_mem hltc)
       have hst:=awv cs j hltc
       generalize cs[j]=tj at hcj hzj hst
       have hpj:=avb (bsz tj) (by rw[abt];omega) wr
       clear hcell
       go_wp2_with fail
       refine hpj.mono ?_
       rintro e w6 ⟨q,bq,rfl,hq,rfl⟩
       have hq':(bq=true∧abe tj=some q)∨(bq=false∧abe tj=none):=by simpa using hq
       clear hq hpj
       rcases hq' with ⟨rfl,hq'⟩ | ⟨rfl,hq'⟩
       ·have HP2:Hid (aa2 cs=aon (acc++[q]) (aa2 (cs.drop (j+1)))):=by
         show _=_
         rw[HP.out,hst,hq']
         cases aa2 (cs.drop (j+1))<;>simp[aon]
        clear HP hst hq'
        have hown':IOwn (wr.alloc (.cells #[.int .i64 q] 3)) w5.heap.size (.slice av acc.length ac) acc:=World.ownsRow.alloc hown _
        have HN2:Hid (∀i,i<([q]:List Int).length→(wr.alloc (.cells #[.int .i64 q] 3)).cell? ((⟨wr.heap.size,0,none⟩:Addr).add i)=some (.int .i64 (([q]:List Int)[i]?.getD 0))):=fun i hi=>by
         have:i=0:=by simp at hi;omega
         subst this
         exact(Blk.new wr 3 #[.int .i64 q]).cell 0
        have hsum:acc.length+([q]:List Int).length≤1099511627776:=by have:=HAJ.out;simp;omega
        have hsz2:w5.heap.size≤(wr.alloc (.cells #[.int .i64 q] 3)).heap.size:=by simp;omega
        go_wp2_with (first | (at_builtin;refine aao rfl _ _ rfl w5.heap.size _ acc rfl hown' [q] ⟨wr.heap.size,0,none⟩ _ rfl HN2.out hsum hsz2 ?_;intro a7 c7 w7 hown7 hgr7 hnil7 hat7;have hb7:Below w5.heap.size wr w7:=((Below.refl w5.heap.size wr).alloc hsz _).grown hgr7 hsz2 (fun i hi=>(aan hown' hi).1);have hm7:=hmr.below hb7 (by omega);have y2:w7.cell? ⟨w.heap.size+1,2,none⟩=some (.slice av acc.length ac):=hm7.cell 2;have yz:=hm7.frozen 2;clear hnil7 hat7))
        have hlen1:(acc++[q]).length=acc.length+1:=by simp
        have hm8:Blk (w7.setCell ⟨w.heap.size+1,2,none⟩ (.slice a7 (acc.length+1) c7)) (w.heap.size+1) 153 #[.int .i64 x,.int .i64 y,.slice a7 (acc++[q]).length c7]:=by
         rw[hlen1]
         exact hm7.set 2 _
        have hown8:IOwn (w7.setCell ⟨w.heap.size+1,2,none⟩ (.slice a7 (acc.length+1) c7)) w5.heap.size (.slice a7 (acc++[q]).length c7) (acc++[q]):=by
         refine aam ?_ (show w.heap.size+1<w5.heap.size by omega) _
         rw[hlen1]
         have h9:=hown7
         unfold IOwn at h9
         rw[hlen1] at h9
         exact h9
        have hsz8:w5.heap.size≤(w7.setCell ⟨w.heap.size+1,2,none⟩ (.slice a7 (acc.length+1) c7)).heap.size:=by
         have:=Nat.le_trans hsz hb7.size
         simpa[World.setCell] using this
        exact⟨⟨j+1,acc++[q],a7,c7,by omega,by go_num,by rw[hlen1,HAJ.out],hm8,hown8,HP2,fun k hk hne=>(Below.heap_setCell _ ⟨w.heap.size+1,2,none⟩ _ k hne).trans ((hb7.block k hk).trans (hkp k hk hne)),(hbel.trans (hb7.mono (by omega))).setCell (show w.heap.size≤w.heap.size+1 by omega) _,hsz8⟩,by simp only[intOf];omega⟩
       ·have HF:Hid (acj s.data.toList=none):=by
         show _=_
         rw[HMP.out,HP.out,hst,hq']
         try rfl
        clear HMP HP hst hq'
        go_wp2_with fail
        refine bodyPost_ret (ac5 (hrr.set3 _ _ _) rfl rfl) rfl ?_
        exact⟨hbel.trans (abd (Nat.le_refl _)),by rw[HF.out];exact⟨_,_,_,_,_,rfl⟩⟩
      ·obtain rfl:j=k5:=by omega
       have HY:Hid (acj s.data.toList=some (x,y,acc)):=by
        show _=_
        rw[HMP.out,HP.out,List.drop_of_length_le (by rw[←HK5.out];exact Nat.le_refl _)]
        simp[aa2,aon]
       clear HMP HP
       go_wp2_with fail
       refine bodyPost_ret (ac5 (hrr.set3 _ _ _) rfl rfl) rfl ?_
       refine⟨hbel.trans (abd (Nat.le_refl _)),?_⟩
       rw[HY.out]
       refine⟨av,acc.length,ac,rfl,?_⟩
       have h1:=aam (aam (aam hown (p:=⟨w.heap.size,0,none⟩) (show w.heap.size<w5.heap.size by omega) (.int .i64 x)) (p:=⟨w.heap.size,1,none⟩) (show w.heap.size<w5.heap.size by omega) (.int .i64 y)) (p:=⟨w.heap.size,2,none⟩) (show w.heap.size<w5.heap.size by omega) (.slice av acc.length ac)
       exact aai h1 (by omega)
   ·have HF:Hid (acj s.data.toList=none):=by show _=_;rw[HM.out,hx',hy']
    clear HM hx' hy'
    go_wp2_with fail
    refine bodyPost_ret (ac5 (hr3.set3 _ _ _) rfl rfl) rfl ?_
    exact⟨(hbw3).trans (abd (Nat.le_refl _)),by rw[HF.out];exact⟨_,_,_,_,_,rfl⟩⟩
  ·have HF:Hid (acj s.data.toList=none):=by show _=_;rw[HM.out,hx']
   clear HM hx' hy'
   go_wp2_with fail
   refine bodyPost_ret (ac5 (hr3.set3 _ _ _) rfl rfl) rfl ?_
   exact⟨(hbw3).trans (abd (Nat.le_refl _)),by rw[HF.out];exact⟨_,_,_,_,_,rfl⟩⟩
 ·have HF:Hid (acj s.data.toList=none):=ath (by rw[←hk1];exact h3)
  have h3':((k1:Int) !=3)=true:=by simp;omega
  obtain⟨⟨r0,r1,r2⟩,rz0,rz1,rz2⟩:=abm hr1
  obtain⟨⟨m0,m1,m2⟩,mz0,mz1,mz2⟩:=abm hm1
  clear hk1 HSS
  go_wp2_with fail
  refine bodyPost_ret (ac5 (hr1.set3 _ _ _) rfl rfl) rfl ?_
  exact⟨(hbw1).trans (abd (Nat.le_refl _)),by rw[HF.out];exact⟨_,_,_,_,_,rfl⟩⟩
end Go.Proofs.YtfhpgmlfgjfknaaGreatDoor
