/- Contracts and lemmas (nothing is claimed here). -/
import Derived.Test.YtfhpgmlfgjfknaaGreatDoorJ11
namespace Go.Proofs.YtfhpgmlfgjfknaaGreatDoor
open Go.RowKit Go.Vf Go.Maps
def ar5 (l:List El):Bool:=decide (1≤l.length)&&decide (l.length≤16)&&l.all aah
theorem a43 (l:List El)(k:Nat)(h:k<l.length):(l.drop k).all aah=(aah l[k]&&(l.drop (k+1)).all aah):=by
 rw[List.drop_eq_getElem_cons h,List.all_cons]
set_option maxHeartbeats 1000000 in
theorem akh (n₀:Nat)(v:Value)(l:List El)(w:World)(hn₀:n₀≤w.heap.size)(hin:Els n₀ w v l)(hll:l.length≤4611686018427387904):
  Calls Tryz.prog 82 #[v] w fun e w'=>e=.returned (.bool (ar5 l))∧Below w.heap.size w w':=by
 obtain⟨a,cap,rfl⟩:=hin.val
 by_cases h0:l.length=0
 ·have hR:ar5 l=false:=by simp[ar5,h0]
  rw[hR]
  rw[h0]
  clear hR
  go_enter Tryz.func82,Tryz.ntmps82
  go_wp2
  go_ret
  exact⟨rfl,Below.refl _ _⟩
 ·by_cases h16:16<l.length
  ·have hR:ar5 l=false:=by simp[ar5];omega
   rw[hR]
   clear hR
   go_enter Tryz.func82,Tryz.ntmps82
   go_wp2
   go_ret
   exact⟨rfl,Below.refl _ _⟩
  ·have hR:ar5 l=l.all aah:=by
    unfold ar5
    rw[show decide (1≤l.length)=true by simp;omega,show decide (l.length≤16)=true by simp;omega]
    try rfl
   generalize ar5 l=R at hR⊢
   have HR:Hid (R=l.all aah):=hR
   clear hR
   have b0:((l.length:Int)==0)=false:=beq_eq_false_iff_ne.2 (by omega)
   have b16:decide ((16:Int)<(l.length:Int))=false:=by simp;omega
   have H0:Hid (1≤l.length∧l.length≤16):=⟨by omega,by omega⟩
   clear h0 h16
   go_enter Tryz.func82,Tryz.ntmps82
   go_wp2_with fail
   go_loopw [15] (fun i wr=> ∃k:Nat,k≤l.length∧i=.int .i64 k∧Hid (R=(l.drop k).all aah)∧Below w.heap.size w wr) (fun i _=>l.length-(intOf i).toNat)
   case atStart=>exact⟨0,by omega,rfl,HR,Below.refl _ _⟩
   case round=>
    clear HR
    obtain⟨k,hk,rfl,HK,hbel⟩:=hrel
    by_cases hlt:k<l.length
    ·obtain⟨b,off,rfl,c0,c1,c2,c3⟩:=(hin.below hbel hn₀).at hlt
     have hd:=a43 l k hlt
     have hKK:=HK.out
     rw[hd] at hKK
     generalize l[k]=e at c0 c1 c2 c3 hKK
     obtain⟨va,pr,se,te⟩:=e
     simp only at c0 c1 c2 c3
     have hb1:=hbel.alloc hbel.size (.cells #[.bool va,.int .i64 pr,.int .i64 se,.int .i64 te] 131)
     have HKK:Hid (R=(aah ⟨va,pr,se,te⟩&&(l.drop (k+1)).all aah)):=hKK
     clear hKK HK hd
     go_wp2_with fail
     generalize wr.alloc (.cells #[.bool va,.int .i64 pr,.int .i64 se,.int .i64 te] 131)=W at hb1⊢
     refine(aty ⟨va,pr,se,te⟩ W).mono ?_
     rintro _ w2 ⟨rfl,hb2⟩
     have hb3:Below w.heap.size w w2:=hb1.trans (hb2.mono hb1.size)
     cases hq:aah ⟨va,pr,se,te⟩ with
     | false=>
      have hRn:R=false:=by rw[HKK.out,hq];rfl
      clear HKK hq
      go_wp2
      go_ret
      exact⟨by rw[hRn];rfl,hb3⟩
     | true=>
      have HK2:Hid (R=(l.drop (k+1)).all aah):=by
       show _=_
       rw[HKK.out,hq];rfl
      clear HKK hq
      go_wp2
      go_roundw
      case rel=>exact⟨k+1,by omega,by simp,HK2,hb3⟩
      case measure=>simp only[intOf];omega
    ·have hRn:R=true:=by rw[HK.out,List.drop_of_length_le (by omega)];rfl
     clear HK
     go_wp2
     go_ret
     exact⟨by rw[hRn];rfl,hbel⟩
def at3 (n:Int):List El:=if adc n then [⟨false,aii n+n/32768,32,2⟩,⟨false,32768+n % 32768,0,0⟩] else []
theorem a1x (n:Int):64320≤aii n∧aii n≤64448:=by
 unfold aii;split
 ·omega
 ·split<;>omega
theorem a6y (u:Nat)(hu:u≤1114111):bits BinOp.and IntKind.i64 (u:Int) 32767=((u % 32768:Nat):Int):=by
 have h1:(BitVec.ofInt 64 (u:Int)).toNat=u:=by
  rw[BitVec.ofInt_natCast,BitVec.toNat_ofNat];exact Nat.mod_eq_of_lt (by omega)
 have h2:(BitVec.ofInt 64 (32767:Int)).toNat=32767:=by decide
 have h3:u &&& 32767=u % 32768:=Nat.and_two_pow_sub_one_eq_mod u 15
 show IntKind.i64.wrap ((BitVec.ofInt 64 (u:Int) &&& BitVec.ofInt 64 (32767:Int)).toNat:Int)=_
 rw[BitVec.toNat_and,h1,h2,h3]
 have h4:u % 32768<32768:=Nat.mod_lt _ (by omega)
 generalize u % 32768=q at h4
 exact IntWalk.i64_in _ ⟨by omega,by omega⟩
theorem a6b (w:World)(l:List El)(hl:l.length≤1048576):EOwn (w.alloc (.cells (aji l).toArray 131)) w.heap.size (.slice (some ⟨w.heap.size,0,none⟩) l.length l.length) l:=by
 refine⟨?_,.inr ⟨w.heap.size,l.length,(aji l).toArray,rfl,Nat.le_refl _,Blk.new w 131 _,Nat.le_refl _,?_,?_,?_⟩⟩
 ·simp[agp]
 ·unfold maxLen;omega
 ·simp[agp]
 ·simp[agp,List.take_of_length_le]
set_option maxHeartbeats 1000000 in
theorem at2 (n:Int)(w:World):Calls Tryz.prog 107 #[.int .i64 n] w fun e w'=> ∃v,e=.returned v∧EOwn w' w.heap.size v (at3 n)∧Below w.heap.size w w'∧(v=.slice none 0 0∨v=.slice (some ⟨w.heap.size,0,none⟩) 2 2):=by
 cases hp:adc n with
 | false=>
  have hR:at3 n=[]:=by unfold at3;rw[hp];try rfl
  rw[hR]
  have h1:=fun w=>aic n w
  rw[hp] at h1
  clear hR hp
  go_enter Tryz.func107,Tryz.ntmps107
  go_wp2_with fail
  refine(h1 _).mono ?_
  rintro _ w1 ⟨rfl,rfl⟩
  go_wp2
  go_ret
  exact⟨_,rfl,EOwn.nil _ _,Below.refl _ _,.inl rfl⟩
 | true=>
  have h1:=fun w=>aic n w
  rw[hp] at h1
  obtain⟨u,rfl,hu⟩:=ad7 hp
  have hR:at3 (u:Int)=[⟨false,aii u+(u:Int)/32768,32,2⟩,⟨false,32768+(u:Int) % 32768,0,0⟩]:=by unfold at3;rw[hp];try rfl
  have hbi:=a1x u
  have hand:=a6y u hu
  have hq:(0:Int)≤(u:Int)/32768∧(u:Int)/32768≤34:=by omega
  have hm:((u % 32768:Nat):Int)<32768:=by omega
  generalize at3 (u:Int)=R at hR⊢
  have HR:Hid (R=[⟨false,aii u+(u:Int)/32768,32,2⟩,⟨false,32768+(u:Int) % 32768,0,0⟩]):=hR
  clear hp hR
  have h2:=fun w=>a40 (u:Int) w
  generalize aii (u:Int)=B at hbi h2 HR
  go_enter Tryz.func107,Tryz.ntmps107
  go_wp2_with fail
  refine(h1 _).mono ?_
  rintro _ w1 ⟨rfl,rfl⟩
  go_wp2_with fail
  refine(h2 _).mono ?_
  rintro _ w1 ⟨rfl,rfl⟩
  go_wp2_with fail
  go_ret
  have ho:=a6b w R (by rw[HR.out];simp)
  refine⟨_,rfl,?_,(Below.refl _ _).alloc (Nat.le_refl _) _,.inr rfl⟩
  rw[HR.out] at ho⊢
  exact ho
end Go.Proofs.YtfhpgmlfgjfknaaGreatDoor
namespace Go.Vf
def afd (m:PM):Bool:=m.parts.all aed&&(aed m.point&&(decide (0≤m.cls)&&decide (m.cls≤254)))
def aeg:List PM→Int→Bool
 | [],_=>true
 | m::r,ab=>if m.point≤ab then false else if afd m then aeg r m.point else false
end Go.Vf
namespace Go.Proofs.YtfhpgmlfgjfknaaGreatDoor
open Go.RowKit Go.Vf Go.Maps
def adb (m:PM):List UInt8:=af1 m.point.toNat m.cls.toNat (m.parts.map Int.toNat)
def ab3:List PM→Bool→List UInt8→Option (List UInt8)
 | [],_,acc=>some acc
 | m::r,f,acc=>
  if 65536<m.parts.length then none
  else if 65536<((if f then acc else acc++[10])++adb m).length then none
  else ab3 r false ((if f then acc else acc++[10])++adb m)
def afi (l:List PM):Except Int (List UInt8):=
 if 4096<l.length then .error 2 else if aeg l (-1) then (match ab3 l true [] with
  | none=>.error 2
  | some t=>.ok t) else .error 1
theorem a10 (l:List Int)(k:Nat)(h:k<l.length):(l.drop k).all aed=(aed l[k]&&(l.drop (k+1)).all aed):=by
 rw[List.drop_eq_getElem_cons h,List.all_cons]
set_option maxHeartbeats 4000000 in
set_option maxRecDepth 20000 in
theorem azt (n₀:Nat)(m:PM)(a:Option Addr)(k cap:Nat)(w:World)(hn₀:n₀≤w.heap.size)(hin:Ints n₀ w (.slice a k cap) m.parts)(hl:m.parts.length≤4611686018427387904):
  Calls Tryz.prog 76 #[.agg #[.int .i64 m.point,.int .i64 m.cls,.slice a k cap]] w fun e w'=>e=.returned (.bool (afd m))∧Below w.heap.size w w':=by
 obtain⟨a',c',he⟩:=hin.val
 simp only[Value.slice.injEq] at he
 have HK:Hid (k=m.parts.length):=he.2.1
 have hkl:k≤4611686018427387904:=by rw[he.2.1];exact hl
 clear he
 have hb0:=(Below.refl w.heap.size w).alloc (Nat.le_refl _) (.cells #[.int .i64 m.point,.int .i64 m.cls,.slice a k cap] 153)
 have hbn:=Blk.new w 153 #[.int .i64 m.point,.int .i64 m.cls,.slice a k cap]
 generalize hR:afd m=R
 have HR:Hid ((m.parts.all aed&&(aed m.point&&(decide (0≤m.cls)&&decide (m.cls≤254))))=R):=hR
 go_enter Tryz.func76,Tryz.ntmps76
 go_upto_region 1 with fail
 generalize w.alloc (.cells #[.int .i64 m.point,.int .i64 m.cls,.slice a k cap] 153)=W at hb0 hbn⊢
 have e0:W.cell? ⟨w.heap.size,0,none⟩=some (.int .i64 m.point):=hbn.cell 0
 have e1:W.cell? ⟨w.heap.size,1,none⟩=some (.int .i64 m.cls):=hbn.cell 1
 have e2:W.cell? ⟨w.heap.size,2,none⟩=some (.slice a k cap):=hbn.cell 2
 clear hR
 go_wp2_with fail
 go_loopw [8] (fun i wr=> ∃j:Nat,j≤k∧i=.int .i64 j∧Hid (((m.parts.drop j).all aed&&(aed m.point&&(decide (0≤m.cls)&&decide (m.cls≤254))))=R)∧W=wr) (fun i _=>k-(intOf i).toNat)
 case atStart=>exact⟨0,by omega,rfl,by simpa using HR,rfl⟩
 case round=>
  obtain⟨j,hj,rfl,HJ,rfl⟩:=hrel
  by_cases hlt:j<k
  ·have hltp:j<m.parts.length:=by rw[←HK.out];exact hlt
   obtain⟨bp,op,hao,hnk,hblt,hcell⟩:=(hin.below hb0 hn₀).cell (fun e=>by rw[e] at hltp;simp at hltp)
   have hcj:=hcell j hltp
   rw[show m.parts[j]?.getD 0=m.parts[j] by simp[List.getElem?_eq_getElem hltp]] at hcj
   have hJJ:=HJ.out
   rw[a10 _ _ hltp,Bool.and_assoc] at hJJ
   generalize m.parts[j]=q at hcj hJJ
   subst hao
   clear hcell hnk HJ HR
   go_wp2_with fail
   refine(afk q W).mono ?_
   rintro e w2 ⟨rfl,rfl⟩
   cases hq:aed q with
   | false=>
    rw[hq] at hJJ
    have hRf:R=false:=by rw[←hJJ];rfl
    clear hJJ
    go_wp2_with fail
    go_ret
    exact⟨by rw[hRf];rfl,hb0⟩
   | true=>
    rw[hq,Bool.true_and] at hJJ
    have HJ2:Hid (((m.parts.drop (j+1)).all aed&&(aed m.point&&(decide (0≤m.cls)&&decide (m.cls≤254))))=R):=hJJ
    clear hJJ
    go_wp2_with fail
    go_roundw
    case rel=>exact⟨j+1,by omega,by simp,HJ2,by trivial⟩
    case measure=>simp only[intOf];omega
  ·have hJJ:=HJ.out
   rw[List.drop_of_length_le (by rw[←HK.out];omega)] at hJJ
   simp only[List.all_nil,Bool.true_and] at hJJ
   have HJ2:Hid ((aed m.point&&(decide (0≤m.cls)&&decide (m.cls≤254)))=R):=hJJ
   clear hJJ HJ HR
   go_wp2_with fail
   refine(afk m.point W).mono ?_
   rintro e w2 ⟨rfl,rfl⟩
   cases hq:aed m.point with
   | false=>
    rw[hq] at HJ2
    have hRf:R=false:=by rw[←HJ2.out];rfl
    go_wp2_with fail
    go_ret
    exact⟨by rw[hRf];rfl,hb0⟩
   | true=>
    rw[hq] at HJ2
    by_cases h0:0≤m.cls
    ·by_cases h1:m.cls≤254
     ·have hRf:R=true:=by rw[←HJ2.out];simp[h0,h1]
      go_wp2_with fail
      go_ret
      exact⟨by rw[hRf];rfl,hb0⟩
     ·have hRf:R=false:=by rw[←HJ2.out];simp[h1]
      have h1':decide (m.cls≤254)=false:=by simpa using h1
      go_wp2_with fail
      go_ret
      exact⟨by rw[hRf];rfl,hb0⟩
    ·have hRf:R=false:=by rw[←HJ2.out];simp[h0]
     have h0':decide (0≤m.cls)=false:=by simpa using h0
     go_wp2_with fail
     go_ret
     exact⟨by rw[hRf];rfl,hb0⟩
def am4:Option (List UInt8)→Ending
 | none=>.returned (.tuple #[.string ⟨#[]⟩,.int .i64 2])
 | some t=>.returned (.tuple #[.string (bsz t),.int .i64 0])
theorem aej {tmps:Array Value}{w:World}{a b:Value}(t2:tmps[2]?.getD undef=a)(t3:tmps[3]?.getD undef=b):(results Tryz.f77 tmps).run Tryz.prog w=.ok (.tuple #[a,b]) w:=by
 simp[results,Tryz.results77,go_sem,t2,t3]
theorem act {tmps:Array Value}{w:World}{a b:Value}(t2:tmps[2]?.getD undef=a)(t3:tmps[3]?.getD undef=b):(results Tryz.f46 tmps).run Tryz.prog w=.ok (.tuple #[a,b]) w:=by
 simp[results,Tryz.results46,go_sem,t2,t3]
theorem atd {x:Int}(h:aed x=true): ∃u:Nat,x=(u:Int)∧u≤1114111:=by
 simp[aed] at h
 exact⟨x.toNat,by omega,by omega⟩
theorem ag6 {m:PM}(h:afd m=true): ∃(u c:Nat) (us:List Nat),m=⟨(u:Int),(c:Int),us.map fun q:Nat=>(q:Int)⟩∧u≤1114111∧c≤254∧(∀q∈us,q≤1114111)∧adb m=af1 u c us:=by
 simp only[afd,Bool.and_eq_true,decide_eq_true_eq,List.all_eq_true] at h
 obtain⟨h1,h2,h3,h4⟩:=h
 obtain⟨u,hu,hul⟩:=atd h2
 obtain⟨pt,cl,ps⟩:=m
 simp only at hu h1 h2 h3 h4
 subst hu
 have hps:ps=(ps.map Int.toNat).map (fun q:Nat=>(q:Int)):=by
  rw[List.map_map]
  conv=>lhs;rw[←List.map_id ps]
  refine List.map_congr_left fun x hx=> ?_
  obtain⟨q,rfl,_⟩:=atd (h1 x hx)
  simp
 refine⟨u,cl.toNat,ps.map Int.toNat,?_,hul,by omega,?_,?_⟩
 ·rw[←hps,show((cl.toNat:Nat):Int)=cl by omega]
 ·intro q hq
  obtain⟨x,hx,rfl⟩:=List.mem_map.1 hq
  obtain⟨q',rfl,hq'⟩:=atd (h1 x hx)
  simpa using hq'
 ·simp[adb]
theorem ah0 (m:PM)(r:List PM)(f:Bool)(acc:List UInt8):ab3 (m::r) f acc=if 65536<m.parts.length then none
  else if 65536<((if f then acc else acc++[10])++adb m).length then none
  else ab3 r false ((if f then acc else acc++[10])++adb m):=rfl
set_option maxHeartbeats 4000000 in
set_option maxRecDepth 20000 in
theorem amm (l:List PM)(hl:l.length≤4096)(hmay: ∀m∈l,afd m=true)(v:Value)(n₀:Nat)(w:World)(hn₀:n₀≤w.heap.size)(hin:MIn n₀ w v l)(htb:Tb w w.heap.size):
  Calls Tryz.prog 77 #[v] w fun e w'=>e=am4 (ab3 l true [])∧Below w.heap.size w w':=by
 obtain⟨a,cap,rfl⟩:=hin.val
 generalize hR:ab3 l true []=R
 have HR:Hid (ab3 l true []=R):=hR
 clear hR
 go_enter Tryz.func77,Tryz.ntmps77
 go_wp2_with fail
 go_loopw [4,9] (fun v i wr=> ∃(k:Nat) (acc:List UInt8),k≤l.length∧i=.int .i64 k∧BOwn 5 wr w.heap.size v acc∧acc.length≤65536∧Hid (ab3 (l.drop k) (decide (k=0)) acc=R)∧Below w.heap.size w wr∧w.heap.size≤wr.heap.size) (fun _ i _=>l.length-(intOf i).toNat)
 case atStart=>exact⟨0,[],by omega,rfl,BOwn.nil _ _ _,by simp,by simpa using HR,Below.refl _ _,Nat.le_refl _⟩
 case round=>
  clear HR
  obtain⟨k,acc,hk,rfl,hown,hal,HK,hbel,hsz⟩:=hrel
  by_cases hlt:k<l.length
  ·have hd:l.drop k=l[k]::l.drop (k+1):=List.drop_eq_getElem_cons hlt
   obtain⟨b,off,rfl,pa,pk,pc,c0,c1,c2,hpi⟩:=(hin.below hbel hn₀).at hlt
   have hm:=hmay _ (List.getElem_mem hlt)
   have hKK:=HK.out
   rw[hd,ah0] at hKK
   generalize l[k]=mm at c0 c1 c2 hpi hm hKK
   obtain⟨u,c,us,rfl,hu,hc,hus,hmp⟩:=ag6 hm
   simp only[List.length_map] at c0 c1 hpi hKK
   rw[hmp] at hKK
   obtain⟨a',c',he⟩:=hpi.val
   simp only[Value.slice.injEq,List.length_map] at he
   have HPK:Hid (pk=us.length):=he.2.1
   have hb1:=hbel.alloc hsz (.cells #[.int .i64 (u:Int),.int .i64 (c:Int),.slice pa pk pc] 153)
   have hbn:=Blk.new wr 153 #[.int .i64 (u:Int),.int .i64 (c:Int),.slice pa pk pc]
   have hown1:BOwn 5 (wr.alloc (.cells #[.int .i64 (u:Int),.int .i64 (c:Int),.slice pa pk pc] 153)) w.heap.size _ acc:=BOwn.alloc hown _
   have hsz1:w.heap.size≤(wr.alloc (.cells #[.int .i64 (u:Int),.int .i64 (c:Int),.slice pa pk pc] 153)).heap.size:=by simp;omega
   have hpi1:Ints n₀ (wr.alloc (.cells #[.int .i64 (u:Int),.int .i64 (c:Int),.slice pa pk pc] 153)) (.slice pa pk pc) (us.map fun q:Nat=>(q:Int)):=hpi.below ((Below.refl w.heap.size wr).alloc hsz _) hn₀
   have HKK:Hid ((if 65536<us.length then none
    else if 65536<((if decide (k=0)=true then acc else acc++[10])++af1 u c us).length then none
    else ab3 (l.drop (k+1)) false ((if decide (k=0)=true then acc else acc++[10])++af1 u c us))=R):=hKK
   clear he hKK HK hd hm hmp
   go_upto_region 5 with fail
   generalize wr.alloc (.cells #[.int .i64 (u:Int),.int .i64 (c:Int),.slice pa pk pc] 153)=W at hb1 hbn hown1 hsz1 hpi1⊢
   have e0:W.cell? ⟨wr.heap.size,0,none⟩=some (.int .i64 (u:Int)):=hbn.cell 0
   have e1:W.cell? ⟨wr.heap.size,1,none⟩=some (.int .i64 (c:Int)):=hbn.cell 1
   have e2:W.cell? ⟨wr.heap.size,2,none⟩=some (.slice pa pk pc):=hbn.cell 2
   by_cases hlong:65536<pk
   ·have hRn:R=none:=by rw[←HKK.out,if_pos (by rw[←HPK.out];exact hlong)]
    go_wp2_with fail
    refine bodyPost_ret (aej rfl rfl) rfl ?_
    exact⟨by rw[hRn];rfl,hb1⟩
   ·have hul:us.length≤65536:=by rw[←HPK.out];omega
    have HK2:Hid ((if 65536<((if decide (k=0)=true then acc else acc++[10])++af1 u c us).length then none
     else ab3 (l.drop (k+1)) false ((if decide (k=0)=true then acc else acc++[10])++af1 u c us))=R):=by
     have h:=HKK.out
     rw[if_neg (show ¬65536<us.length by omega)] at h
     exact h
    clear HKK
    by_cases hk0:0<k
    ·have hl9:acc.length≤1099511627776:=by omega
     have hdk:decide (k=0)=false:=by simp;omega
     rw[hdk] at HK2
     simp only[Bool.false_eq_true,if_false] at HK2
     go_wp2_with (first | (at_builtin;refine aap rfl _ _ rfl w.heap.size _ acc rfl hown1 10 _ rfl _ rfl hl9 hsz1 W (Below.refl _ _) (KO.refl _) ?_;intro v2 w2 hown2 hb2 hsz2 hko2;have hbn2:=hko2 _ _ _ (by decide) hbn;have g0:w2.cell? ⟨wr.heap.size,0,none⟩=some (.int .i64 (u:Int)):=hbn2.cell 0;have g1:w2.cell? ⟨wr.heap.size,1,none⟩=some (.int .i64 (c:Int)):=hbn2.cell 1;have g2:w2.cell? ⟨wr.heap.size,2,none⟩=some (.slice pa pk pc):=hbn2.cell 2))
     refine(ahw w.heap.size n₀ u c us hu hc hus hul v2 _ pa pk pc w2 hown2 (by simp;omega) hsz2 ((htb.below hb1).below hb2) hn₀ (hpi1.below hb2 hn₀)).mono ?_
     rintro e w3 ⟨v3,rfl,hown3,hb3,hsz3,hko3⟩
     generalize (acc++[10])++af1 u c us=acc3 at hown3 HK2
     obtain⟨a3,c3,rfl⟩:=abn hown3
     have hbel3:=(hb1.trans hb2).trans hb3
     by_cases hL:65536<acc3.length
     ·have hRn:R=none:=by rw[←HK2.out,if_pos hL]
      go_wp2_with fail
      refine bodyPost_ret (aej rfl rfl) rfl ?_
      exact⟨by rw[hRn];rfl,hbel3⟩
     ·have HK3:Hid (ab3 (l.drop (k+1)) false acc3=R):=by
       have h:=HK2.out
       rw[if_neg hL] at h
       exact h
      go_wp2_with fail
      go_roundw
      case rel=>exact⟨k+1,acc3,by omega,by simp,hown3,by omega,by simpa using HK3,hbel3,hsz3⟩
      case measure=>simp only[intOf];omega
    ·have hdk:decide (k=0)=true:=by simp;omega
     rw[hdk] at HK2
     simp only[if_true] at HK2
     have hk00:decide ((0:Int)<(k:Int))=false:=by simp;omega
     go_wp2_with fail
     refine(ahw w.heap.size n₀ u c us hu hc hus hul _ _ pa pk pc W hown1 (by omega) hsz1 (htb.below hb1) hn₀ hpi1).mono ?_
     rintro e w3 ⟨v3,rfl,hown3,hb3,hsz3,hko3⟩
     generalize acc++af1 u c us=acc3 at hown3 HK2
     obtain⟨a3,c3,rfl⟩:=abn hown3
     have hbel3:=hb1.trans hb3
     by_cases hL:65536<acc3.length
     ·have hRn:R=none:=by rw[←HK2.out,if_pos hL]
      go_wp2_with fail
      refine bodyPost_ret (aej rfl rfl) rfl ?_
      exact⟨by rw[hRn];rfl,hbel3⟩
     ·have HK3:Hid (ab3 (l.drop (k+1)) false acc3=R):=by
       have h:=HK2.out
       rw[if_neg hL] at h
       exact h
      go_wp2_with fail
      go_roundw
      case rel=>exact⟨k+1,acc3,by omega,by simp,hown3,by omega,by simpa using HK3,hbel3,hsz3⟩
      case measure=>simp only[intOf];omega
  ·have hRs:R=some acc:=by rw[←HK.out,List.drop_of_length_le (by omega)];rfl
   have hcv:=afq (P:=Tryz.prog) wr 74 9 5 Tryz.underlying74 Tryz.underlying5 Tryz.underlying9 w.heap.size _ acc hown
   obtain⟨a3,c3,rfl⟩:=abn hown
   clear HK
   go_wp2_with fail
   refine bodyPost_ret (aej rfl rfl) rfl ?_
   exact⟨by rw[hRs];rfl,hbel⟩
def ava:Except Int (List UInt8)→Ending
 | .error why=>.returned (.tuple #[.string ⟨#[]⟩,.int .i64 why])
 | .ok t=>.returned (.tuple #[.string (bsz t),.int .i64 0])
theorem aod: ∀(l:List PM) (ab:Int),aeg l ab=true→ ∀m∈l,afd m=true:=by
 intro l
 induction l with
 | nil=>intro ab _ m hm;simp at hm
 | cons a r ih=>
  intro ab h m hm
  rw[aeg] at h
  split at h
  ·cases h
  ·split at h
   ·rename_i hmay
    rcases List.mem_cons.1 hm with rfl | hm
    ·exact hmay
    ·exact ih _ h m hm
   ·cases h
set_option maxHeartbeats 4000000 in
set_option maxRecDepth 20000 in
theorem ay7 (l:List PM)(hll:l.length≤4611686018427387904)(hpl: ∀m∈l,m.parts.length≤4611686018427387904)(v:Value)(n₀:Nat)(w:World)(hn₀:n₀≤w.heap.size)(hin:MIn n₀ w v l)(htb:Tb w w.heap.size):
  Calls Tryz.prog 46 #[v] w fun e w'=>e=ava (afi l)∧Below w.heap.size w w':=by
 by_cases hlong:4096<l.length
 ·obtain⟨a,cap,rfl⟩:=hin.val
  have hR:afi l=.error 2:=by unfold afi;rw[if_pos hlong]
  rw[hR]
  go_enter Tryz.func46,Tryz.ntmps46
  go_wp2_with fail
  refine bodyPost_ret (act rfl rfl) rfl ?_
  exact⟨rfl,Below.refl _ _⟩
 ·have hl:l.length≤4096:=by omega
  have hR:afi l=if aeg l (-1) then (match ab3 l true [] with
   | none=>.error 2
   | some t=>.ok t) else .error 1:=by unfold afi;rw[if_neg hlong];try rfl
  generalize afi l=PR at hR
  generalize hC:aeg l (-1)=C at hR
  have HC:Hid (aeg l (-1)=C):=hC
  have HR:Hid (PR=if C=true then (match ab3 l true [] with
   | none=>.error 2
   | some t=>.ok t) else .error 1):=hR
  clear hR hC
  obtain⟨a,cap,rfl⟩:=hin.val
  go_enter Tryz.func46,Tryz.ntmps46
  go_wp2_with fail
  go_loopw [4,12] (fun x i wr=> ∃(k:Nat) (ab:Int),k≤l.length∧i=.int .i64 k∧x=.int .i64 ab∧Hid (aeg (l.drop k) ab=C)∧Below w.heap.size w wr∧w.heap.size≤wr.heap.size) (fun _ i _=>l.length-(intOf i).toNat)
  case atStart=>exact⟨0,-1,by omega,rfl,rfl,by simpa using HC,Below.refl _ _,Nat.le_refl _⟩
  case round=>
   obtain⟨k,ab,hk,rfl,rfl,HK,hbel,hsz⟩:=hrel
   by_cases hlt:k<l.length
   ·have hd:l.drop k=l[k]::l.drop (k+1):=List.drop_eq_getElem_cons hlt
    obtain⟨b,off,rfl,pa,pk,pc,c0,c1,c2,hpi⟩:=(hin.below hbel hn₀).at hlt
    have hml:=hpl _ (List.getElem_mem hlt)
    have hKK:=HK.out
    rw[hd,aeg] at hKK
    generalize l[k]=mm at c0 c1 c2 hpi hml hKK
    have hb1:=hbel.alloc hsz (.cells #[.int .i64 mm.point,.int .i64 mm.cls,.slice pa pk pc] 153)
    have hbn:=Blk.new wr 153 #[.int .i64 mm.point,.int .i64 mm.cls,.slice pa pk pc]
    have hsz1:w.heap.size≤(wr.alloc (.cells #[.int .i64 mm.point,.int .i64 mm.cls,.slice pa pk pc] 153)).heap.size:=by simp;omega
    have hpi1:Ints n₀ (wr.alloc (.cells #[.int .i64 mm.point,.int .i64 mm.cls,.slice pa pk pc] 153)) (.slice pa pk pc) mm.parts:=hpi.below ((Below.refl w.heap.size wr).alloc hsz _) hn₀
    have HKK:Hid ((if mm.point≤ab then false else if afd mm=true then aeg (l.drop (k+1)) mm.point else false)=C):=hKK
    clear hKK HK hd HC
    go_upto_region 7 with fail
    generalize wr.alloc (.cells #[.int .i64 mm.point,.int .i64 mm.cls,.slice pa pk pc] 153)=W at hb1 hbn hsz1 hpi1⊢
    have e0:W.cell? ⟨wr.heap.size,0,none⟩=some (.int .i64 mm.point):=hbn.cell 0
    have e1:W.cell? ⟨wr.heap.size,1,none⟩=some (.int .i64 mm.cls):=hbn.cell 1
    have e2:W.cell? ⟨wr.heap.size,2,none⟩=some (.slice pa pk pc):=hbn.cell 2
    by_cases hle:mm.point≤ab
    ·have hCf:C=false:=by rw[←HKK.out,if_pos hle]
     have hPR:PR=.error 1:=by rw[HR.out,hCf];rfl
     go_wp2_with fail
     refine bodyPost_ret (act rfl rfl) rfl ?_
     exact⟨by rw[hPR];rfl,hb1⟩
    ·have HK1:Hid ((if afd mm=true then aeg (l.drop (k+1)) mm.point else false)=C):=by
      have h:=HKK.out
      rw[if_neg hle] at h
      exact h
     clear HKK
     go_wp2_with fail
     refine(azt n₀ mm pa pk pc W (by omega) hpi1 hml).mono ?_
     rintro e w2 ⟨rfl,hb2⟩
     have hbn2:=hbn.below hb2 hbn.lt
     have g0:w2.cell? ⟨wr.heap.size,0,none⟩=some (.int .i64 mm.point):=hbn2.cell 0
     have hbel2:=hb1.trans (hb2.mono hsz1)
     cases hm:afd mm with
     | false=>
      rw[hm] at HK1
      have hCf:C=false:=by rw[←HK1.out];rfl
      have hPR:PR=.error 1:=by rw[HR.out,hCf];rfl
      go_wp2_with fail
      refine bodyPost_ret (act rfl rfl) rfl ?_
      exact⟨by rw[hPR];rfl,hbel2⟩
     | true=>
      rw[hm] at HK1
      have HK2:Hid (aeg (l.drop (k+1)) mm.point=C):=HK1
      go_wp2_with fail
      go_roundw
      case rel=>exact⟨k+1,mm.point,by omega,by simp,rfl,HK2,hbel2,Nat.le_trans hsz1 hb2.size⟩
      case measure=>simp only[intOf];omega
   ·have hCt:C=true:=by rw[←HK.out,List.drop_of_length_le (by omega)];rfl
    have hmay:=aod l (-1) (by rw[HC.out];exact hCt)
    have HPR:Hid (PR=match ab3 l true [] with
     | none=>.error 2
     | some t=>.ok t):=by show _=_;rw[HR.out,hCt];rfl
    clear HK HC HR
    have htbr:=(htb.below hbel).up hbel.size
    go_wp2_with fail
    refine(amm l hl hmay _ n₀ wr (Nat.le_trans hn₀ hsz) (hin.below hbel hn₀) htbr).mono ?_
    cases hw:ab3 l true [] with
    | none=>
     rintro e w2 ⟨rfl,hb2⟩
     have hPR:PR=.error 2:=by rw[HPR.out,hw]
     simp only[am4]
     go_wp2_with fail
     refine bodyPost_ret (act rfl rfl) rfl ?_
     exact⟨by rw[hPR];rfl,hbel.trans (hb2.mono hsz)⟩
    | some t=>
     rintro e w2 ⟨rfl,hb2⟩
     have hPR:PR=.ok t:=by rw[HPR.out,hw]
     simp only[am4]
     go_wp2_with fail
     refine bodyPost_ret (act rfl rfl) rfl ?_
     exact⟨by rw[hPR];rfl,hbel.trans (hb2.mono hsz)⟩
end Go.Proofs.YtfhpgmlfgjfknaaGreatDoor
namespace Go.Vf
end Go.Vf
namespace Go.Proofs.YtfhpgmlfgjfknaaGreatDoor
open Go.RowKit Go.Vf Go.Maps Go.Sort Go.Shelf
theorem aq8 (L:List Mk)(x:Int):(aau L x).isSome=true↔x∈L.map Mk.point:=by
 unfold aau
 rw[List.find?_isSome]
 constructor
 ·rintro⟨m,hm,e⟩
  exact List.mem_map.2 ⟨m,hm,by simpa using e⟩
 ·intro h
  obtain⟨m,hm,rfl⟩:=List.mem_map.1 h
  exact⟨m,hm,by simp⟩
theorem az8 {w:World}{bm n:Nat}{D:DataW Value}{f:Int→Option Value}{L:List Mk}(hown:w.ownsMap Tryz.prog 3 ax7 bm n D)(hf: ∀x,InI x→Maps.has D (.int .i64 x)=(f x).isSome∧ ∀z,D.atKey (.int .i64 x) (.held z)=.held ((f x).getD z))
  (hL: ∀x,(f x).isSome=(aau L x).isSome) (hin: ∀m∈L,InI m.point) (hnd:(L.map Mk.point).Nodup):(L.map Mk.point).Perm (intKeys D):=by
 have hcol:CollectedI D (fun _=>false) (L.map Mk.point):=⟨hnd,fun x=>by
  constructor
  ·intro hx
   obtain⟨m,hm,rfl⟩:=List.mem_map.1 hx
   refine⟨?_,rfl⟩
   rw[(hf _ (hin m hm)).1,hL]
   exact(aq8 L _).2 hx
  ·rintro⟨hx,_⟩
   have hI:InI x:=by
    obtain⟨es,rfl,hko⟩:=hown.keysOf
    rw[has_eq,List.any_eq_true] at hx
    obtain⟨p,hp,hs⟩:=hx
    obtain⟨v,hv⟩:=hko p hp
    obtain⟨y,_,hy,hl⟩:=Maps.keyOf_i64 Tryz.underlying3 hv
    have e:=WideAt.sameKey_eq hs
    rw[hy] at e
    cases e
    have:=hl
    simp only[Lit.wf,Bool.and_eq_true,decide_eq_true_eq] at this
    unfold InI
    have e1:IntKind.i64.min= -9223372036854775808:=by decide
    have e2:IntKind.i64.max=9223372036854775807:=by decide
    omega
   rw[(hf _ hI).1,hL] at hx
   exact(aq8 L _).1 hx⟩
 exact hcol.perm hown avl Tryz.underlying3 (fun _=>rfl)
theorem MOwn.nil (w:World)(base:Nat):MOwn w base (.slice none 0 0) []:=⟨World.ownsRow_nil _ _ _ _,by simp⟩
theorem axr (ps:List (PM×Value))(x:PM×Value):abr (ps++[x])=abr ps++[.int .i64 x.1.point,.int .i64 x.1.cls,x.2]:=by simp[abr]
theorem MOwn.snoc {w w5:World}{base:Nat}{v v':Value}{ps:List (PM×Value)}{o:Obj}{m:PM}{u:Value}(h:MOwn w base v ps)(hu:IOwn w base u m.parts)(h5:w5.ownsRow base 153 3 v' (ps.length+1) (abr ps++[.int .i64 m.point,.int .i64 m.cls,u]))(hg:(w.alloc o).grownBy w5 v.ownBlock):MOwn w5 base v' (ps++[(m,u)]):=by
 have hva:=World.ownsRow.alloc h.1 o
 have keep: ∀ {z:Value} {zs:List Int},IOwn w base z zs→IOwn w5 base z zs:=fun {z zs} hz=>akb (World.ownsRow.alloc hz o) hva (by decide) hg
 refine⟨by rw[axr,List.length_append];exact h5,fun x hx=> ?_⟩
 rcases List.mem_append.1 hx with hx | hx
 ·exact keep (h.2 x hx)
 ·simp at hx;subst hx;exact keep hu
theorem MOwn.after {w w':World}{base:Nat}{v:Value}{ps:List (PM×Value)}(h:MOwn w base v ps)(hb:Below w.heap.size w w'):MOwn w' base v ps:=⟨aad h.1 hb,fun x hx=>aad (h.2 x hx) hb⟩
set_option maxHeartbeats 4000000 in
set_option maxRecDepth 20000 in
theorem azu (bd:Nat)(L:List Mk)(E:Int→List Int)(w:World)(hd:DataAt w bd L E):
  Calls Tryz.prog 47 #[.pointer (some ⟨bd,0,none⟩)] w fun e w'=> ∃a k cap ps,e=.returned (.slice a k cap)∧MOwn w' w.heap.size (.slice a k cap) ps∧ps.map Prod.fst=aag L∧Below w.heap.size w w':=by
 have hd0:=hd
 obtain⟨bm,n,pv,ev,hbd,hdd,hn,hnd,hlen,hok⟩:=hd
 obtain⟨D,hown,hf⟩:=hdd.mp
 have hperm:=az8 (L:=L) hown hf (fun x=>by simp) (fun m hm=>(hdd.ins m hm).1) hnd
 have hsz:=hown.size_le
 have b0:w.cell? ⟨bd,0,none⟩=some (.map (some bm)):=hbd.cell 0
 have hin: ∀q∈(L.map Mk.point).mergeSort (fun x y=>decide (x≤y)),InI q:=fun q hq=>by
  have:=(List.mergeSort_perm (L.map Mk.point) (fun x y=>decide (x≤y))).subset hq
  obtain⟨m,hm,rfl⟩:=List.mem_map.1 this
  exact(hdd.ins m hm).1
 have hsl:((L.map Mk.point).mergeSort (fun x y=>decide (x≤y))).length≤4096:=by rw[List.length_mergeSort,List.length_map];exact hlen
 unfold aag
 go_enter Tryz.func47,Tryz.ntmps47
 go_wp2_with fail
 refine(az9 (some bm) w).mono ?_
 rintro e w1 ⟨rfl,rfl⟩
 go_wp2_with fail
 refine(aso bm n D ax7 w hown (by unfold maxLen;omega) (by omega)).mono ?_
 rintro e w2 ⟨v2,ss,rfl,hss,hrow,hb2⟩
 have hmer:ss.mergeSort (fun x y=>decide (x≤y))=(L.map Mk.point).mergeSort (fun x y=>decide (x≤y)):=mergeSort_of_perm_i (hss.trans hperm.symm)
 rw[hmer] at hrow
 have hssl:ss.length=((L.map Mk.point).mergeSort (fun x y=>decide (x≤y))).length:=by rw[←hmer,List.length_mergeSort]
 rw[hssl] at hrow
 obtain⟨pts,HPTS⟩: ∃pts,Hid ((L.map Mk.point).mergeSort (fun x y=>decide (x≤y))=pts):=⟨_,rfl⟩
 rw[HPTS.out] at hrow hin hsl
 have hkey:IOwn w2 (w.heap.size+1) v2 pts:=hrow
 have hb02:Below w.heap.size w w2:=((Below.refl w.heap.size w).alloc (Nat.le_refl _) (.cells #[.map (some bm)] 89)).trans (hb2.mono (by omega))
 have hd2:=hd0.below hb02
 obtain⟨ak,ck,rfl⟩:=hkey.val
 have hki:=hkey.ints
 clear hrow hkey hmer hssl hss hperm hsz b0 hf hown hb2
 have hbd2:=hbd.below hb02 hbd.lt
 have hdd2:=hdd.below hb02
 clear hdd hd0
 go_wp2_with fail
 go_loopw [3,16] (fun v i wr=> ∃(k:Nat) (ps:List (PM×Value)),k≤pts.length∧i=.int .i64 k∧MOwn wr w2.heap.size v ps∧ps.length=k∧Hid (ps.map Prod.fst=(pts.take k).map fun p=>(⟨p,aaa L p,aab L p⟩:PM))∧Below w2.heap.size w2 wr) (fun _ i _=>pts.length-(intOf i).toNat)
 case atStart=>exact⟨0,[],by omega,rfl,MOwn.nil _ _,rfl,by show _=_;simp,Below.refl _ _⟩
 case round=>
  obtain⟨k,ps,hk,rfl,hmo,hpl,HP,hbel⟩:=hrel
  subst hpl
  by_cases hlt:ps.length<pts.length
  ·obtain⟨bp,op,hao,hnk,hblt,hcell⟩:=(hki.below hbel (Nat.le_refl _)).cell (fun e=>by rw[e] at hlt;simp at hlt)
   have hcj:=hcell ps.length hlt
   rw[show pts[ps.length]?.getD 0=pts[ps.length] by simp[List.getElem?_eq_getElem hlt]] at hcj
   have hqI:=hin _ (List.getElem_mem hlt)
   have htk:pts.take (ps.length+1)=pts.take ps.length++[pts[ps.length]]:=List.take_succ_eq_append_getElem hlt
   generalize pts[ps.length]=q at hcj hqI htk
   have HP2:Hid ((ps.map Prod.fst)++[(⟨q,aaa L q,aab L q⟩:PM)]=(pts.take (ps.length+1)).map fun p=>(⟨p,aaa L p,aab L p⟩:PM)):=by show _=_;rw[htk,List.map_append,HP.out];rfl
   subst hao
   obtain⟨av,cv,rfl⟩:=aax hmo.1
   have hddr:=hdd2.below hbel
   have hbdr:=hbd2.below hbel hbd2.lt
   have b0:wr.cell? ⟨bd,0,none⟩=some (.map (some bm)):=hbdr.cell 0
   obtain⟨a,kk,cap,a2,k2,cap2,hl,_,hpi,hkA,hkl,_,_,hk2,_⟩:=hddr.look hqI
   have hl':=hl wr rfl
   have hb1:=(Below.refl wr.heap.size wr).alloc (Nat.le_refl _) (.cells #[.int .i64 (aaa L q),.slice a kk cap,.slice a2 k2 cap2] 141)
   have hbn:=Blk.new wr 141 #[.int .i64 (aaa L q),.slice a kk cap,.slice a2 k2 cap2]
   have hmo1:=hmo.after hb1
   have hpi1:=(hpi.below hb1 (Nat.le_refl _)).mono hb1.size
   have HPLN:Hid ((aab L q).length≤131072):=by show _≤_;omega
   clear hcell hnk htk hkA hk2 hl HP hpi
   go_upto_region 8 with fail
   generalize wr.alloc (.cells #[.int .i64 (aaa L q),.slice a kk cap,.slice a2 k2 cap2] 141)=W at hb1 hbn hmo1 hpi1⊢
   have s0:W.drew.cell? ⟨wr.heap.size,0,none⟩=some (.int .i64 (aaa L q))∧W.drew.cell? ⟨wr.heap.size,1,none⟩=some (.slice a kk cap):=⟨hbn.cell 0,hbn.cell 1⟩
   have hwsz:w2.heap.size≤W.heap.size:=Nat.le_trans hbel.size hb1.size
   have HCL:Hid (Calls Tryz.prog 80 #[.slice a kk cap] W.drew fun e w'=> ∃a' k' c',e=.returned (.slice a' k' c')∧IOwn w' W.drew.heap.size (.slice a' k' c') (aab L q)∧Below W.drew.heap.size W.drew w'):=arx (n₀:=W.heap.size) a kk cap (aab L q) W.drew hpi1 HPLN.out
   obtain⟨i0,hi0,hz0,hz1,hz2⟩:=info_parts a0l
   have HMO:Hid (MOwn W.drew w2.heap.size (.slice av ps.length cv) ps):=hmo1
   have HBN:Hid (Blk W.drew wr.heap.size 141 #[.int .i64 (aaa L q),.slice a kk cap,.slice a2 k2 cap2]):=hbn
   have hps4:ps.length+1≤maxLen:=by unfold maxLen;omega
   have hps5:(ps.length+1)*40≤140737488355328:=by omega
   clear hmo1 hbn hl' b0 hbdr hddr hcj hpi1
   go_region_held_law (fun x=>x.cell? ⟨wr.heap.size,0,none⟩=some (.int .i64 (aaa L q))∧x.cell? ⟨wr.heap.size,1,none⟩=some (.slice a kk cap)) (first | exact s0 | assumption | exact⟨hbn3.out.cell 0,hbn3.out.cell 1⟩ | exact⟨hbn4.out.cell 0,hbn4.out.cell 1⟩ | exact⟨hbn5.out.cell 0,hbn5.out.cell 1⟩)
    (first
     | (refine step_append_lies _ (by rfl) _ _ _ (by rfl) w2.heap.size 153 i0 _ 3 40 Tryz.underlying60 hi0 hz0 hz1 hz2 rfl (by omega) (.slice av ps.length cv) ps.length (abr ps) (by rfl) (World.ownsRow.alloc hmo3.out.1 _) ⟨w3.heap.size,0,none⟩ 1 1 [.int .i64 q,.int .i64 (aaa L q),.slice a3 k3 c3] (by rfl) (by rfl) (World.news_of_block (cs:= #[.int .i64 q,.int .i64 (aaa L q),.slice a3 k3 c3]) (t:=153) (fr:=(0,0)) (heap_alloc_new w3 _)) (by simp[Value.oneCell']) (by omega) hps4 hps5 hsz3' (w3.heap.size+1) (by simp) ?_;intro g5 cap5 w5 hown5 hgrow5 hat5 hlt5;have hbn5:Hid (Blk w5 wr.heap.size 141 #[.int .i64 (aaa L q),.slice a kk cap,.slice a2 k2 cap2]):=(hgrow5.block wr.heap.size hbn4.out.lt (aa9 (World.ownsRow.alloc hmo3.out.1 _) hbn4.out (by decide))).trans hbn4.out)
     | (go_at_call 80;refine HCL.out.mono ?_;rintro e w3 ⟨a3,k3,c3,rfl,hown3,hb3⟩;have hbn3:Hid (Blk w3 wr.heap.size 141 #[.int .i64 (aaa L q),.slice a kk cap,.slice a2 k2 cap2]):=HBN.out.below hb3 HBN.out.lt;have hbn4:Hid (Blk (w3.alloc (.cells #[.int .i64 q,.int .i64 (aaa L q),.slice a3 k3 c3] 153)) wr.heap.size 141 #[.int .i64 (aaa L q),.slice a kk cap,.slice a2 k2 cap2]):=(Below.heap_alloc w3 _ _ hbn3.out.lt).trans hbn3.out;have hmo3:Hid (MOwn w3 w2.heap.size (.slice av ps.length cv) ps):=HMO.out.after hb3;have hsz3':w2.heap.size≤(w3.alloc (.cells #[.int .i64 q,.int .i64 (aaa L q),.slice a3 k3 c3] 153)).heap.size:=Nat.le_trans hwsz (Nat.le_trans hb3.size (by simp))))
   have HBEL5:Hid (Below w2.heap.size w2 w5):=((((hbel.trans (hb1.mono hbel.size)).trans (aby W 1 _)).trans (Below.mono hb3 hwsz)).alloc (Nat.le_trans hwsz hb3.size) _).grown hgrow5 hsz3' (fun j hj=>(aan hmo3.out.1 hj).1)
   have HMO5:Hid (MOwn w5 w2.heap.size (.slice (some ⟨g5,0,none⟩) (ps.length+1) cap5) (ps++[(⟨q,aaa L q,aab L q⟩,.slice a3 k3 c3)])):=MOwn.snoc (o:=.cells #[.int .i64 q,.int .i64 (aaa L q),.slice a3 k3 c3] 153) (m:=⟨q,aaa L q,aab L q⟩) hmo3.out (hown3.mono hwsz) hown5 hgrow5
   clear hmo3 hown5 hgrow5 hbn3 hbn4 hbn5 hown3 hb3 hat5
   go_wp2_with fail
   go_roundw
   case rel=>exact⟨ps.length+1,ps++[(⟨q,aaa L q,aab L q⟩,.slice a3 k3 c3)],by omega,by simp,HMO5.out,by simp,by show _=_;rw[List.map_append];exact HP2.out,HBEL5.out⟩
   case measure=>simp only[intOf];omega
  ·have HF:Hid (ps.map Prod.fst=pts.map fun p=>(⟨p,aaa L p,aab L p⟩:PM)):=by show _=_;rw[HP.out,List.take_of_length_le (by omega)]
   obtain⟨av,cv,rfl⟩:=aax hmo.1
   clear HP
   go_wp2_with fail
   go_ret
   exact⟨_,_,_,ps,rfl,⟨aai hmo.1 hb02.size,fun x hx=>(hmo.2 x hx).mono hb02.size⟩,by rw[HPTS.out];exact HF.out,hb02.trans (hbel.mono hb02.size)⟩
end Go.Proofs.YtfhpgmlfgjfknaaGreatDoor
