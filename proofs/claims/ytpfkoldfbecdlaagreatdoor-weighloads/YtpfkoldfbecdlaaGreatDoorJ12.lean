/- Contracts and lemmas (nothing is claimed here). -/
import Derived.Test.YtpfkoldfbecdlaaGreatDoorJ11
namespace Go.Proofs.YtpfkoldfbecdlaaGreatDoor
open Go.RowKit Go.Vf Go.Maps
def an1 (l:List El):Bool:=decide (1≤l.length)&&decide (l.length≤16)&&l.all aaf
theorem a3m (l:List El)(k:Nat)(h:k<l.length):(l.drop k).all aaf=(aaf l[k]&&(l.drop (k+1)).all aaf):=by
 rw[List.drop_eq_getElem_cons h,List.all_cons]
set_option maxHeartbeats 1000000 in
theorem aj6 (n₀:Nat)(v:Value)(l:List El)(w:World)(hn₀:n₀≤w.heap.size)(hin:Els n₀ w v l)(hll:l.length≤4611686018427387904):
  Calls Tryz.prog 62 #[v] w fun e w'=>e=.returned (.bool (an1 l))∧Below w.heap.size w w':=by
 obtain⟨a,cap,rfl⟩:=hin.val
 by_cases h0:l.length=0
 ·have hR:an1 l=false:=by simp[an1,h0]
  rw[hR]
  rw[h0]
  clear hR
  go_enter Tryz.func62,Tryz.ntmps62
  go_wp2
  go_ret
  exact⟨rfl,Below.refl _ _⟩
 ·by_cases h16:16<l.length
  ·have hR:an1 l=false:=by simp[an1];omega
   rw[hR]
   clear hR
   go_enter Tryz.func62,Tryz.ntmps62
   go_wp2
   go_ret
   exact⟨rfl,Below.refl _ _⟩
  ·have hR:an1 l=l.all aaf:=by
    unfold an1
    rw[show decide (1≤l.length)=true by simp;omega,show decide (l.length≤16)=true by simp;omega]
    rfl
   generalize an1 l=R at hR⊢
   have HR:Hid (R=l.all aaf):=hR
   clear hR
   have b0:((l.length:Int)==0)=false:=beq_eq_false_iff_ne.2 (by omega)
   have b16:decide ((16:Int)<(l.length:Int))=false:=by simp;omega
   have H0:Hid (1≤l.length∧l.length≤16):=⟨by omega,by omega⟩
   clear h0 h16
   go_enter Tryz.func62,Tryz.ntmps62
   go_wp2_with fail
   go_loopw [15] (fun i wr=> ∃k:Nat,k≤l.length∧i=.int .i64 k∧Hid (R=(l.drop k).all aaf)∧Below w.heap.size w wr) (fun i _=>l.length-(intOf i).toNat)
   case atStart=>exact⟨0,by omega,rfl,HR,Below.refl _ _⟩
   case round=>
    clear HR
    obtain⟨k,hk,rfl,HK,hbel⟩:=hrel
    by_cases hlt:k<l.length
    ·obtain⟨b,off,rfl,c0,c1,c2,c3⟩:=(hin.below hbel hn₀).at hlt
     have hd:=a3m l k hlt
     have hKK:=HK.out
     rw[hd] at hKK
     generalize l[k]=e at c0 c1 c2 c3 hKK
     obtain⟨va,pr,se,te⟩:=e
     simp only at c0 c1 c2 c3
     have hb1:=hbel.alloc hbel.size (.cells #[.bool va,.int .i64 pr,.int .i64 se,.int .i64 te] 133)
     have HKK:Hid (R=(aaf ⟨va,pr,se,te⟩&&(l.drop (k+1)).all aaf)):=hKK
     clear hKK HK hd
     go_wp2_with fail
     generalize wr.alloc (.cells #[.bool va,.int .i64 pr,.int .i64 se,.int .i64 te] 133)=W at hb1⊢
     refine(as8 ⟨va,pr,se,te⟩ W).mono ?_
     rintro _ w2 ⟨rfl,hb2⟩
     have hb3:Below w.heap.size w w2:=hb1.trans (hb2.mono hb1.size)
     cases hq:aaf ⟨va,pr,se,te⟩ with
     | false=>
      have hRn:R=false:=by rw[HKK.out,hq];rfl
      clear HKK hq
      go_wp2
      go_ret
      exact⟨by rw[hRn];rfl,hb3⟩
     | true=>
      have HK2:Hid (R=(l.drop (k+1)).all aaf):=by
       show _=_
       rw[HKK.out,hq];rfl
      clear HKK hq
      go_wp2
      go_roundw
      case rel=>exact⟨k+1,by omega,by simp,HK2,hb3⟩
      case measure=>simp only[intOf];omega
    ·have hRn:R=true:=by rw[HK.out,List.drop_of_length_le (by omega)];rfl
     clear HK
     go_wp2
     go_ret
     exact⟨by rw[hRn];rfl,hbel⟩
def atb (n:Int):List El:=if abm n then [⟨false,aih n+n/32768,32,2⟩,⟨false,32768+n % 32768,0,0⟩] else []
theorem a0x (n:Int):64320≤aih n∧aih n≤64448:=by
 unfold aih;split
 ·omega
 ·split<;>omega
theorem a5f (u:Nat)(hu:u≤1114111):bits BinOp.and IntKind.i64 (u:Int) 32767=((u % 32768:Nat):Int):=by
 have h1:(BitVec.ofInt 64 (u:Int)).toNat=u:=by
  rw[BitVec.ofInt_natCast,BitVec.toNat_ofNat];exact Nat.mod_eq_of_lt (by omega)
 have h2:(BitVec.ofInt 64 (32767:Int)).toNat=32767:=by decide
 have h3:u &&& 32767=u % 32768:=Nat.and_two_pow_sub_one_eq_mod u 15
 show IntKind.i64.wrap ((BitVec.ofInt 64 (u:Int) &&& BitVec.ofInt 64 (32767:Int)).toNat:Int)=_
 rw[BitVec.toNat_and,h1,h2,h3]
 have h4:u % 32768<32768:=Nat.mod_lt _ (by omega)
 generalize u % 32768=q at h4
 exact IntWalk.i64_in _ ⟨by omega,by omega⟩
theorem a4t (w:World)(l:List El)(hl:l.length≤1048576):EOwn (w.alloc (.cells (ai9 l).toArray 133)) w.heap.size (.slice (some ⟨w.heap.size,0,none⟩) l.length l.length) l:=by
 refine⟨?_,.inr ⟨w.heap.size,l.length,(ai9 l).toArray,rfl,Nat.le_refl _,Blk.new w 133 _,Nat.le_refl _,?_,?_,?_⟩⟩
 ·simp[agn]
 ·unfold maxLen;omega
 ·simp[agn]
 ·simp[agn,List.take_of_length_le]
set_option maxHeartbeats 1000000 in
theorem ata (n:Int)(w:World):Calls Tryz.prog 126 #[.int .i64 n] w fun e w'=> ∃v,e=.returned v∧EOwn w' w.heap.size v (atb n)∧Below w.heap.size w w'∧(v=.slice none 0 0∨v=.slice (some ⟨w.heap.size,0,none⟩) 2 2):=by
 cases hp:abm n with
 | false=>
  have hR:atb n=[]:=by unfold atb;rw[hp];rfl
  rw[hR]
  have h1:=fun w=>aib n w
  rw[hp] at h1
  clear hR hp
  go_enter Tryz.func126,Tryz.ntmps126
  go_wp2_with fail
  refine(h1 _).mono ?_
  rintro _ w1 ⟨rfl,rfl⟩
  go_wp2
  go_ret
  exact⟨_,rfl,EOwn.nil _ _,Below.refl _ _,.inl rfl⟩
 | true=>
  have h1:=fun w=>aib n w
  rw[hp] at h1
  obtain⟨u,rfl,hu⟩:=ad9 hp
  have hR:atb (u:Int)=[⟨false,aih u+(u:Int)/32768,32,2⟩,⟨false,32768+(u:Int) % 32768,0,0⟩]:=by unfold atb;rw[hp];rfl
  have hbi:=a0x u
  have hand:=a5f u hu
  have hq:(0:Int)≤(u:Int)/32768∧(u:Int)/32768≤34:=by omega
  have hm:((u % 32768:Nat):Int)<32768:=by omega
  generalize atb (u:Int)=R at hR⊢
  have HR:Hid (R=[⟨false,aih u+(u:Int)/32768,32,2⟩,⟨false,32768+(u:Int) % 32768,0,0⟩]):=hR
  clear hp hR
  have h2:=fun w=>a3k (u:Int) w
  generalize aih (u:Int)=B at hbi h2 HR
  go_enter Tryz.func126,Tryz.ntmps126
  go_wp2_with fail
  refine(h1 _).mono ?_
  rintro _ w1 ⟨rfl,rfl⟩
  go_wp2_with fail
  refine(h2 _).mono ?_
  rintro _ w1 ⟨rfl,rfl⟩
  go_wp2_with fail
  go_ret
  have ho:=a4t w R (by rw[HR.out];simp)
  refine⟨_,rfl,?_,(Below.refl _ _).alloc (Nat.le_refl _) _,.inr rfl⟩
  rw[HR.out] at ho⊢
  exact ho
end Go.Proofs.YtpfkoldfbecdlaaGreatDoor
namespace Go.Vf
def adm (m:PM):Bool:=m.parts.all ada&&(ada m.point&&(decide (0≤m.cls)&&decide (m.cls≤254)))
def acd:List PM→Int→Bool
 | [],_=>true
 | m::r,ab=>if m.point≤ab then false else if adm m then acd r m.point else false
end Go.Vf
namespace Go.Proofs.YtpfkoldfbecdlaaGreatDoor
open Go.RowKit Go.Vf Go.Maps
def adb (m:PM):List UInt8:=aci m.point.toNat m.cls.toNat (m.parts.map Int.toNat)
def abd:List PM→Bool→List UInt8→Option (List UInt8)
 | [],_,acc=>some acc
 | m::r,f,acc=>
  if 65536<m.parts.length then none
  else if 65536<((if f then acc else acc++[10])++adb m).length then none
  else abd r false ((if f then acc else acc++[10])++adb m)
def adh (l:List PM):Except Int (List UInt8):=
 if 4096<l.length then .error 2 else if acd l (-1) then (match abd l true [] with
  | none=>.error 2
  | some t=>.ok t) else .error 1
theorem arm (l:List Int)(k:Nat)(h:k<l.length):(l.drop k).all ada=(ada l[k]&&(l.drop (k+1)).all ada):=by
 rw[List.drop_eq_getElem_cons h,List.all_cons]
set_option maxHeartbeats 4000000 in
set_option maxRecDepth 20000 in
theorem ayx (n₀:Nat)(m:PM)(a:Option Addr)(k cap:Nat)(w:World)(hn₀:n₀≤w.heap.size)(hin:Ints n₀ w (.slice a k cap) m.parts)(hl:m.parts.length≤4611686018427387904):
  Calls Tryz.prog 56 #[.agg #[.int .i64 m.point,.int .i64 m.cls,.slice a k cap]] w fun e w'=>e=.returned (.bool (adm m))∧Below w.heap.size w w':=by
 obtain⟨a',c',he⟩:=hin.val
 simp only[Value.slice.injEq] at he
 have HK:Hid (k=m.parts.length):=he.2.1
 have hkl:k≤4611686018427387904:=by rw[he.2.1];exact hl
 clear he
 have hb0:=(Below.refl w.heap.size w).alloc (Nat.le_refl _) (.cells #[.int .i64 m.point,.int .i64 m.cls,.slice a k cap] 120)
 have hbn:=Blk.new w 120 #[.int .i64 m.point,.int .i64 m.cls,.slice a k cap]
 generalize hR:adm m=R
 have HR:Hid ((m.parts.all ada&&(ada m.point&&(decide (0≤m.cls)&&decide (m.cls≤254))))=R):=hR
 go_enter Tryz.func56,Tryz.ntmps56
 go_upto_region 1 with fail
 generalize w.alloc (.cells #[.int .i64 m.point,.int .i64 m.cls,.slice a k cap] 120)=W at hb0 hbn⊢
 have e0:W.cell? ⟨w.heap.size,0,none⟩=some (.int .i64 m.point):=hbn.cell 0
 have e1:W.cell? ⟨w.heap.size,1,none⟩=some (.int .i64 m.cls):=hbn.cell 1
 have e2:W.cell? ⟨w.heap.size,2,none⟩=some (.slice a k cap):=hbn.cell 2
 clear hR
 go_wp2_with fail
 go_loopw [8] (fun i wr=> ∃j:Nat,j≤k∧i=.int .i64 j∧Hid (((m.parts.drop j).all ada&&(ada m.point&&(decide (0≤m.cls)&&decide (m.cls≤254))))=R)∧W=wr) (fun i _=>k-(intOf i).toNat)
 case atStart=>exact⟨0,by omega,rfl,by simpa using HR,rfl⟩
 case round=>
  obtain⟨j,hj,rfl,HJ,rfl⟩:=hrel
  by_cases hlt:j<k
  ·have hltp:j<m.parts.length:=by rw[←HK.out];exact hlt
   obtain⟨bp,op,hao,hnk,hblt,hcell⟩:=(hin.below hb0 hn₀).cell (fun e=>by rw[e] at hltp;simp at hltp)
   have hcj:=hcell j hltp
   rw[show m.parts[j]?.getD 0=m.parts[j] by simp[List.getElem?_eq_getElem hltp]] at hcj
   have hJJ:=HJ.out
   rw[arm _ _ hltp,Bool.and_assoc] at hJJ
   generalize m.parts[j]=q at hcj hJJ
   subst hao
   clear hcell hnk HJ HR
   go_wp2_with fail
   refine(afj q W).mono ?_
   rintro e w2 ⟨rfl,rfl⟩
   cases hq:ada q with
   | false=>
    rw[hq] at hJJ
    have hRf:R=false:=by rw[←hJJ];rfl
    clear hJJ
    go_wp2_with fail
    go_ret
    exact⟨by rw[hRf];rfl,hb0⟩
   | true=>
    rw[hq,Bool.true_and] at hJJ
    have HJ2:Hid (((m.parts.drop (j+1)).all ada&&(ada m.point&&(decide (0≤m.cls)&&decide (m.cls≤254))))=R):=hJJ
    clear hJJ
    go_wp2_with fail
    go_roundw
    case rel=>exact⟨j+1,by omega,by simp,HJ2,by trivial⟩
    case measure=>simp only[intOf];omega
  ·have hJJ:=HJ.out
   rw[List.drop_of_length_le (by rw[←HK.out];omega)] at hJJ
   simp only[List.all_nil,Bool.true_and] at hJJ
   have HJ2:Hid ((ada m.point&&(decide (0≤m.cls)&&decide (m.cls≤254)))=R):=hJJ
   clear hJJ HJ HR
   go_wp2_with fail
   refine(afj m.point W).mono ?_
   rintro e w2 ⟨rfl,rfl⟩
   cases hq:ada m.point with
   | false=>
    rw[hq] at HJ2
    have hRf:R=false:=by rw[←HJ2.out];rfl
    go_wp2_with fail
    go_ret
    exact⟨by rw[hRf];rfl,hb0⟩
   | true=>
    rw[hq] at HJ2
    by_cases h0:0≤m.cls
    ·by_cases h1:m.cls≤254
     ·have hRf:R=true:=by rw[←HJ2.out];simp[h0,h1]
      go_wp2_with fail
      go_ret
      exact⟨by rw[hRf];rfl,hb0⟩
     ·have hRf:R=false:=by rw[←HJ2.out];simp[h1]
      have h1':decide (m.cls≤254)=false:=by simpa using h1
      go_wp2_with fail
      go_ret
      exact⟨by rw[hRf];rfl,hb0⟩
    ·have hRf:R=false:=by rw[←HJ2.out];simp[h0]
     have h0':decide (0≤m.cls)=false:=by simpa using h0
     go_wp2_with fail
     go_ret
     exact⟨by rw[hRf];rfl,hb0⟩
def amt:Option (List UInt8)→Ending
 | none=>.returned (.tuple #[.string ⟨#[]⟩,.int .i64 2])
 | some t=>.returned (.tuple #[.string (bsz t),.int .i64 0])
theorem aee {tmps:Array Value}{w:World}{a b:Value}(t2:tmps[2]?.getD undef=a)(t3:tmps[3]?.getD undef=b):(results Tryz.f57 tmps).run Tryz.prog w=.ok (.tuple #[a,b]) w:=by
 simp[results,Tryz.results57,go_sem,t2,t3]
theorem adf {tmps:Array Value}{w:World}{a b:Value}(t2:tmps[2]?.getD undef=a)(t3:tmps[3]?.getD undef=b):(results Tryz.f21 tmps).run Tryz.prog w=.ok (.tuple #[a,b]) w:=by
 simp[results,Tryz.results21,go_sem,t2,t3]
theorem ast {x:Int}(h:ada x=true): ∃u:Nat,x=(u:Int)∧u≤1114111:=by
 simp[ada] at h
 exact⟨x.toNat,by omega,by omega⟩
theorem afy {m:PM}(h:adm m=true): ∃(u c:Nat) (us:List Nat),m=⟨(u:Int),(c:Int),us.map fun q:Nat=>(q:Int)⟩∧u≤1114111∧c≤254∧(∀q∈us,q≤1114111)∧adb m=aci u c us:=by
 simp only[adm,Bool.and_eq_true,decide_eq_true_eq,List.all_eq_true] at h
 obtain⟨h1,h2,h3,h4⟩:=h
 obtain⟨u,hu,hul⟩:=ast h2
 obtain⟨pt,cl,ps⟩:=m
 simp only at hu h1 h2 h3 h4
 subst hu
 have hps:ps=(ps.map Int.toNat).map (fun q:Nat=>(q:Int)):=by
  rw[List.map_map]
  conv=>lhs;rw[←List.map_id ps]
  refine List.map_congr_left fun x hx=> ?_
  obtain⟨q,rfl,_⟩:=ast (h1 x hx)
  simp
 refine⟨u,cl.toNat,ps.map Int.toNat,?_,hul,by omega,?_,?_⟩
 ·rw[←hps,show((cl.toNat:Nat):Int)=cl by omega]
 ·intro q hq
  obtain⟨x,hx,rfl⟩:=List.mem_map.1 hq
  obtain⟨q',rfl,hq'⟩:=ast (h1 x hx)
  simpa using hq'
 ·simp[adb]
theorem af5 (m:PM)(r:List PM)(f:Bool)(acc:List UInt8):abd (m::r) f acc=if 65536<m.parts.length then none
  else if 65536<((if f then acc else acc++[10])++adb m).length then none
  else abd r false ((if f then acc else acc++[10])++adb m):=rfl
set_option maxHeartbeats 4000000 in
set_option maxRecDepth 20000 in
theorem amg (l:List PM)(hl:l.length≤4096)(hmay: ∀m∈l,adm m=true)(v:Value)(n₀:Nat)(w:World)(hn₀:n₀≤w.heap.size)(hin:MIn n₀ w v l)(htb:Tb w w.heap.size):
  Calls Tryz.prog 57 #[v] w fun e w'=>e=amt (abd l true [])∧Below w.heap.size w w':=by
 obtain⟨a,cap,rfl⟩:=hin.val
 generalize hR:abd l true []=R
 have HR:Hid (abd l true []=R):=hR
 clear hR
 go_enter Tryz.func57,Tryz.ntmps57
 go_wp2_with fail
 go_loopw [4,9] (fun v i wr=> ∃(k:Nat) (acc:List UInt8),k≤l.length∧i=.int .i64 k∧BOwn 5 wr w.heap.size v acc∧acc.length≤65536∧Hid (abd (l.drop k) (decide (k=0)) acc=R)∧Below w.heap.size w wr∧w.heap.size≤wr.heap.size) (fun _ i _=>l.length-(intOf i).toNat)
 case atStart=>exact⟨0,[],by omega,rfl,BOwn.nil _ _ _,by simp,by simpa using HR,Below.refl _ _,Nat.le_refl _⟩
 case round=>
  clear HR
  obtain⟨k,acc,hk,rfl,hown,hal,HK,hbel,hsz⟩:=hrel
  by_cases hlt:k<l.length
  ·have hd:l.drop k=l[k]::l.drop (k+1):=List.drop_eq_getElem_cons hlt
   obtain⟨b,off,rfl,pa,pk,pc,c0,c1,c2,hpi⟩:=(hin.below hbel hn₀).at hlt
   have hm:=hmay _ (List.getElem_mem hlt)
   have hKK:=HK.out
   rw[hd,af5] at hKK
   generalize l[k]=mm at c0 c1 c2 hpi hm hKK
   obtain⟨u,c,us,rfl,hu,hc,hus,hmp⟩:=afy hm
   simp only[List.length_map] at c0 c1 hpi hKK
   rw[hmp] at hKK
   obtain⟨a',c',he⟩:=hpi.val
   simp only[Value.slice.injEq,List.length_map] at he
   have HPK:Hid (pk=us.length):=he.2.1
   have hb1:=hbel.alloc hsz (.cells #[.int .i64 (u:Int),.int .i64 (c:Int),.slice pa pk pc] 120)
   have hbn:=Blk.new wr 120 #[.int .i64 (u:Int),.int .i64 (c:Int),.slice pa pk pc]
   have hown1:BOwn 5 (wr.alloc (.cells #[.int .i64 (u:Int),.int .i64 (c:Int),.slice pa pk pc] 120)) w.heap.size _ acc:=BOwn.alloc hown _
   have hsz1:w.heap.size≤(wr.alloc (.cells #[.int .i64 (u:Int),.int .i64 (c:Int),.slice pa pk pc] 120)).heap.size:=by simp;omega
   have hpi1:Ints n₀ (wr.alloc (.cells #[.int .i64 (u:Int),.int .i64 (c:Int),.slice pa pk pc] 120)) (.slice pa pk pc) (us.map fun q:Nat=>(q:Int)):=hpi.below ((Below.refl w.heap.size wr).alloc hsz _) hn₀
   have HKK:Hid ((if 65536<us.length then none
    else if 65536<((if decide (k=0)=true then acc else acc++[10])++aci u c us).length then none
    else abd (l.drop (k+1)) false ((if decide (k=0)=true then acc else acc++[10])++aci u c us))=R):=hKK
   clear he hKK HK hd hm hmp
   go_upto_region 5 with fail
   generalize wr.alloc (.cells #[.int .i64 (u:Int),.int .i64 (c:Int),.slice pa pk pc] 120)=W at hb1 hbn hown1 hsz1 hpi1⊢
   have e0:W.cell? ⟨wr.heap.size,0,none⟩=some (.int .i64 (u:Int)):=hbn.cell 0
   have e1:W.cell? ⟨wr.heap.size,1,none⟩=some (.int .i64 (c:Int)):=hbn.cell 1
   have e2:W.cell? ⟨wr.heap.size,2,none⟩=some (.slice pa pk pc):=hbn.cell 2
   by_cases hlong:65536<pk
   ·have hRn:R=none:=by rw[←HKK.out,if_pos (by rw[←HPK.out];exact hlong)]
    go_wp2_with fail
    refine bodyPost_ret (aee rfl rfl) rfl ?_
    exact⟨by rw[hRn];rfl,hb1⟩
   ·have hul:us.length≤65536:=by rw[←HPK.out];omega
    have HK2:Hid ((if 65536<((if decide (k=0)=true then acc else acc++[10])++aci u c us).length then none
     else abd (l.drop (k+1)) false ((if decide (k=0)=true then acc else acc++[10])++aci u c us))=R):=by
     have h:=HKK.out
     rw[if_neg (show ¬65536<us.length by omega)] at h
     exact h
    clear HKK
    by_cases hk0:0<k
    ·have hl9:acc.length≤1099511627776:=by omega
     have hdk:decide (k=0)=false:=by simp;omega
     rw[hdk] at HK2
     simp only[Bool.false_eq_true,if_false] at HK2
     go_wp2_with (first | (at_builtin;refine aao rfl _ _ rfl w.heap.size _ acc rfl hown1 10 _ rfl _ rfl hl9 hsz1 W (Below.refl _ _) (KO.refl _) ?_;intro v2 w2 hown2 hb2 hsz2 hko2;have hbn2:=hko2 _ _ _ (by decide) hbn;have g0:w2.cell? ⟨wr.heap.size,0,none⟩=some (.int .i64 (u:Int)):=hbn2.cell 0;have g1:w2.cell? ⟨wr.heap.size,1,none⟩=some (.int .i64 (c:Int)):=hbn2.cell 1;have g2:w2.cell? ⟨wr.heap.size,2,none⟩=some (.slice pa pk pc):=hbn2.cell 2))
     refine(ahx w.heap.size n₀ u c us hu hc hus hul v2 _ pa pk pc w2 hown2 (by simp;omega) hsz2 ((htb.below hb1).below hb2) hn₀ (hpi1.below hb2 hn₀)).mono ?_
     rintro e w3 ⟨v3,rfl,hown3,hb3,hsz3,hko3⟩
     generalize (acc++[10])++aci u c us=acc3 at hown3 HK2
     obtain⟨a3,c3,rfl⟩:=aa7 hown3
     have hbel3:=(hb1.trans hb2).trans hb3
     by_cases hL:65536<acc3.length
     ·have hRn:R=none:=by rw[←HK2.out,if_pos hL]
      go_wp2_with fail
      refine bodyPost_ret (aee rfl rfl) rfl ?_
      exact⟨by rw[hRn];rfl,hbel3⟩
     ·have HK3:Hid (abd (l.drop (k+1)) false acc3=R):=by
       have h:=HK2.out
       rw[if_neg hL] at h
       exact h
      go_wp2_with fail
      go_roundw
      case rel=>exact⟨k+1,acc3,by omega,by simp,hown3,by omega,by simpa using HK3,hbel3,hsz3⟩
      case measure=>simp only[intOf];omega
    ·have hdk:decide (k=0)=true:=by simp;omega
     rw[hdk] at HK2
     simp only[if_true] at HK2
     have hk00:decide ((0:Int)<(k:Int))=false:=by simp;omega
     go_wp2_with fail
     refine(ahx w.heap.size n₀ u c us hu hc hus hul _ _ pa pk pc W hown1 (by omega) hsz1 (htb.below hb1) hn₀ hpi1).mono ?_
     rintro e w3 ⟨v3,rfl,hown3,hb3,hsz3,hko3⟩
     generalize acc++aci u c us=acc3 at hown3 HK2
     obtain⟨a3,c3,rfl⟩:=aa7 hown3
     have hbel3:=hb1.trans hb3
     by_cases hL:65536<acc3.length
     ·have hRn:R=none:=by rw[←HK2.out,if_pos hL]
      go_wp2_with fail
      refine bodyPost_ret (aee rfl rfl) rfl ?_
      exact⟨by rw[hRn];rfl,hbel3⟩
     ·have HK3:Hid (abd (l.drop (k+1)) false acc3=R):=by
       have h:=HK2.out
       rw[if_neg hL] at h
       exact h
      go_wp2_with fail
      go_roundw
      case rel=>exact⟨k+1,acc3,by omega,by simp,hown3,by omega,by simpa using HK3,hbel3,hsz3⟩
      case measure=>simp only[intOf];omega
  ·have hRs:R=some acc:=by rw[←HK.out,List.drop_of_length_le (by omega)];rfl
   have hcv:=acp (P:=Tryz.prog) wr 78 9 5 Tryz.underlying78 Tryz.underlying5 Tryz.underlying9 w.heap.size _ acc hown
   obtain⟨a3,c3,rfl⟩:=aa7 hown
   clear HK
   go_wp2_with fail
   refine bodyPost_ret (aee rfl rfl) rfl ?_
   exact⟨by rw[hRs];rfl,hbel⟩
def ahw:Except Int (List UInt8)→Ending
 | .error why=>.returned (.tuple #[.string ⟨#[]⟩,.int .i64 why])
 | .ok t=>.returned (.tuple #[.string (bsz t),.int .i64 0])
theorem ajr: ∀(l:List PM) (ab:Int),acd l ab=true→ ∀m∈l,adm m=true:=by
 intro l
 induction l with
 | nil=>intro ab _ m hm;simp at hm
 | cons a r ih=>
  intro ab h m hm
  rw[acd] at h
  split at h
  ·cases h
  ·split at h
   ·rename_i hmay
    rcases List.mem_cons.1 hm with rfl | hm
    ·exact hmay
    ·exact ih _ h m hm
   ·cases h
set_option maxHeartbeats 4000000 in
set_option maxRecDepth 20000 in
theorem ayc (l:List PM)(hll:l.length≤4611686018427387904)(hpl: ∀m∈l,m.parts.length≤4611686018427387904)(v:Value)(n₀:Nat)(w:World)(hn₀:n₀≤w.heap.size)(hin:MIn n₀ w v l)(htb:Tb w w.heap.size):
  Calls Tryz.prog 21 #[v] w fun e w'=>e=ahw (adh l)∧Below w.heap.size w w':=by
 by_cases hlong:4096<l.length
 ·obtain⟨a,cap,rfl⟩:=hin.val
  have hR:adh l=.error 2:=by unfold adh;rw[if_pos hlong]
  rw[hR]
  go_enter Tryz.func21,Tryz.ntmps21
  go_wp2_with fail
  refine bodyPost_ret (adf rfl rfl) rfl ?_
  exact⟨rfl,Below.refl _ _⟩
 ·have hl:l.length≤4096:=by omega
  have hR:adh l=if acd l (-1) then (match abd l true [] with
   | none=>.error 2
   | some t=>.ok t) else .error 1:=by unfold adh;rw[if_neg hlong];try rfl
  generalize adh l=PR at hR
  generalize hC:acd l (-1)=C at hR
  have HC:Hid (acd l (-1)=C):=hC
  have HR:Hid (PR=if C=true then (match abd l true [] with
   | none=>.error 2
   | some t=>.ok t) else .error 1):=hR
  clear hR hC
  obtain⟨a,cap,rfl⟩:=hin.val
  go_enter Tryz.func21,Tryz.ntmps21
  go_wp2_with fail
  go_loopw [4,12] (fun x i wr=> ∃(k:Nat) (ab:Int),k≤l.length∧i=.int .i64 k∧x=.int .i64 ab∧Hid (acd (l.drop k) ab=C)∧Below w.heap.size w wr∧w.heap.size≤wr.heap.size) (fun _ i _=>l.length-(intOf i).toNat)
  case atStart=>exact⟨0,-1,by omega,rfl,rfl,by simpa using HC,Below.refl _ _,Nat.le_refl _⟩
  case round=>
   obtain⟨k,ab,hk,rfl,rfl,HK,hbel,hsz⟩:=hrel
   by_cases hlt:k<l.length
   ·have hd:l.drop k=l[k]::l.drop (k+1):=List.drop_eq_getElem_cons hlt
    obtain⟨b,off,rfl,pa,pk,pc,c0,c1,c2,hpi⟩:=(hin.below hbel hn₀).at hlt
    have hml:=hpl _ (List.getElem_mem hlt)
    have hKK:=HK.out
    rw[hd,acd] at hKK
    generalize l[k]=mm at c0 c1 c2 hpi hml hKK
    have hb1:=hbel.alloc hsz (.cells #[.int .i64 mm.point,.int .i64 mm.cls,.slice pa pk pc] 120)
    have hbn:=Blk.new wr 120 #[.int .i64 mm.point,.int .i64 mm.cls,.slice pa pk pc]
    have hsz1:w.heap.size≤(wr.alloc (.cells #[.int .i64 mm.point,.int .i64 mm.cls,.slice pa pk pc] 120)).heap.size:=by simp;omega
    have hpi1:Ints n₀ (wr.alloc (.cells #[.int .i64 mm.point,.int .i64 mm.cls,.slice pa pk pc] 120)) (.slice pa pk pc) mm.parts:=hpi.below ((Below.refl w.heap.size wr).alloc hsz _) hn₀
    have HKK:Hid ((if mm.point≤ab then false else if adm mm=true then acd (l.drop (k+1)) mm.point else false)=C):=hKK
    clear hKK HK hd HC
    go_upto_region 7 with fail
    generalize wr.alloc (.cells #[.int .i64 mm.point,.int .i64 mm.cls,.slice pa pk pc] 120)=W at hb1 hbn hsz1 hpi1⊢
    have e0:W.cell? ⟨wr.heap.size,0,none⟩=some (.int .i64 mm.point):=hbn.cell 0
    have e1:W.cell? ⟨wr.heap.size,1,none⟩=some (.int .i64 mm.cls):=hbn.cell 1
    have e2:W.cell? ⟨wr.heap.size,2,none⟩=some (.slice pa pk pc):=hbn.cell 2
    by_cases hle:mm.point≤ab
    ·have hCf:C=false:=by rw[←HKK.out,if_pos hle]
     have hPR:PR=.error 1:=by rw[HR.out,hCf];rfl
     go_wp2_with fail
     refine bodyPost_ret (adf rfl rfl) rfl ?_
     exact⟨by rw[hPR];rfl,hb1⟩
    ·have HK1:Hid ((if adm mm=true then acd (l.drop (k+1)) mm.point else false)=C):=by
      have h:=HKK.out
      rw[if_neg hle] at h
      exact h
     clear HKK
     go_wp2_with fail
     refine(ayx n₀ mm pa pk pc W (by omega) hpi1 hml).mono ?_
     rintro e w2 ⟨rfl,hb2⟩
     have hbn2:=hbn.below hb2 hbn.lt
     have g0:w2.cell? ⟨wr.heap.size,0,none⟩=some (.int .i64 mm.point):=hbn2.cell 0
     have hbel2:=hb1.trans (hb2.mono hsz1)
     cases hm:adm mm with
     | false=>
      rw[hm] at HK1
      have hCf:C=false:=by rw[←HK1.out];rfl
      have hPR:PR=.error 1:=by rw[HR.out,hCf];rfl
      go_wp2_with fail
      refine bodyPost_ret (adf rfl rfl) rfl ?_
      exact⟨by rw[hPR];rfl,hbel2⟩
     | true=>
      rw[hm] at HK1
      have HK2:Hid (acd (l.drop (k+1)) mm.point=C):=HK1
      go_wp2_with fail
      go_roundw
      case rel=>exact⟨k+1,mm.point,by omega,by simp,rfl,HK2,hbel2,Nat.le_trans hsz1 hb2.size⟩
      case measure=>simp only[intOf];omega
   ·have hCt:C=true:=by rw[←HK.out,List.drop_of_length_le (by omega)];rfl
    have hmay:=ajr l (-1) (by rw[HC.out];exact hCt)
    have HPR:Hid (PR=match abd l true [] with
     | none=>.error 2
     | some t=>.ok t):=by show _=_;rw[HR.out,hCt];rfl
    clear HK HC HR
    have htbr:=(htb.below hbel).up hbel.size
    go_wp2_with fail
    refine(amg l hl hmay _ n₀ wr (Nat.le_trans hn₀ hsz) (hin.below hbel hn₀) htbr).mono ?_
    cases hw:abd l true [] with
    | none=>
     rintro e w2 ⟨rfl,hb2⟩
     have hPR:PR=.error 2:=by rw[HPR.out,hw]
     simp only[amt]
     go_wp2_with fail
     refine bodyPost_ret (adf rfl rfl) rfl ?_
     exact⟨by rw[hPR];rfl,hbel.trans (hb2.mono hsz)⟩
    | some t=>
     rintro e w2 ⟨rfl,hb2⟩
     have hPR:PR=.ok t:=by rw[HPR.out,hw]
     simp only[amt]
     go_wp2_with fail
     refine bodyPost_ret (adf rfl rfl) rfl ?_
     exact⟨by rw[hPR];rfl,hbel.trans (hb2.mono hsz)⟩
end Go.Proofs.YtpfkoldfbecdlaaGreatDoor
namespace Go.Vf
end Go.Vf
namespace Go.Proofs.YtpfkoldfbecdlaaGreatDoor
open Go.RowKit Go.Vf Go.Maps Go.Sort Go.Shelf
theorem aqu (L:List Mk)(x:Int):(aau L x).isSome=true↔x∈L.map Mk.point:=by
 unfold aau
 rw[List.find?_isSome]
 constructor
 ·rintro⟨m,hm,e⟩
  exact List.mem_map.2 ⟨m,hm,by simpa using e⟩
 ·intro h
  obtain⟨m,hm,rfl⟩:=List.mem_map.1 h
  exact⟨m,hm,by simp⟩
theorem azc {w:World}{bm n:Nat}{D:DataW Value}{f:Int→Option Value}{L:List Mk}(hown:w.ownsMap Tryz.prog 3 axd bm n D)(hf: ∀x,InI x→Maps.has D (.int .i64 x)=(f x).isSome∧ ∀z,D.atKey (.int .i64 x) (.held z)=.held ((f x).getD z))
  (hL: ∀x,(f x).isSome=(aau L x).isSome) (hin: ∀m∈L,InI m.point) (hnd:(L.map Mk.point).Nodup):(L.map Mk.point).Perm (intKeys D):=by
 have hcol:CollectedI D (fun _=>false) (L.map Mk.point):=⟨hnd,fun x=>by
  constructor
  ·intro hx
   obtain⟨m,hm,rfl⟩:=List.mem_map.1 hx
   refine⟨?_,rfl⟩
   rw[(hf _ (hin m hm)).1,hL]
   exact(aqu L _).2 hx
  ·rintro⟨hx,_⟩
   have hI:InI x:=by
    obtain⟨es,rfl,hko⟩:=hown.keysOf
    rw[has_eq,List.any_eq_true] at hx
    obtain⟨p,hp,hs⟩:=hx
    obtain⟨v,hv⟩:=hko p hp
    obtain⟨y,_,hy,hl⟩:=Maps.keyOf_i64 Tryz.underlying3 hv
    have e:=WideAt.sameKey_eq hs
    rw[hy] at e
    cases e
    have:=hl
    simp only[Lit.wf,Bool.and_eq_true,decide_eq_true_eq] at this
    unfold InI
    have e1:IntKind.i64.min= -9223372036854775808:=by decide
    have e2:IntKind.i64.max=9223372036854775807:=by decide
    omega
   rw[(hf _ hI).1,hL] at hx
   exact(aqu L _).1 hx⟩
 exact hcol.perm hown aum Tryz.underlying3 (fun _=>rfl)
theorem MOwn.nil (w:World)(base:Nat):MOwn w base (.slice none 0 0) []:=⟨World.ownsRow_nil _ _ _ _,by simp⟩
theorem awy (ps:List (PM×Value))(x:PM×Value):abu (ps++[x])=abu ps++[.int .i64 x.1.point,.int .i64 x.1.cls,x.2]:=by simp[abu]
theorem MOwn.snoc {w w5:World}{base:Nat}{v v':Value}{ps:List (PM×Value)}{o:Obj}{m:PM}{u:Value}(h:MOwn w base v ps)(hu:IOwn w base u m.parts)(h5:w5.ownsRow base 120 3 v' (ps.length+1) (abu ps++[.int .i64 m.point,.int .i64 m.cls,u]))(hg:(w.alloc o).grownBy w5 v.ownBlock):MOwn w5 base v' (ps++[(m,u)]):=by
 have hva:=World.ownsRow.alloc h.1 o
 have keep: ∀ {z:Value} {zs:List Int},IOwn w base z zs→IOwn w5 base z zs:=fun {z zs} hz=>aj2 (World.ownsRow.alloc hz o) hva (by decide) hg
 refine⟨by rw[awy,List.length_append];exact h5,fun x hx=> ?_⟩
 rcases List.mem_append.1 hx with hx | hx
 ·exact keep (h.2 x hx)
 ·simp at hx;subst hx;exact keep hu
theorem MOwn.after {w w':World}{base:Nat}{v:Value}{ps:List (PM×Value)}(h:MOwn w base v ps)(hb:Below w.heap.size w w'):MOwn w' base v ps:=⟨aae h.1 hb,fun x hx=>aae (h.2 x hx) hb⟩
set_option maxHeartbeats 4000000 in
set_option maxRecDepth 20000 in
theorem ayy (bd:Nat)(L:List Mk)(E:Int→List Int)(w:World)(hd:DataAt w bd L E):
  Calls Tryz.prog 22 #[.pointer (some ⟨bd,0,none⟩)] w fun e w'=> ∃a k cap ps,e=.returned (.slice a k cap)∧MOwn w' w.heap.size (.slice a k cap) ps∧ps.map Prod.fst=aai L∧Below w.heap.size w w':=by
 have hd0:=hd
 obtain⟨bm,n,pv,ev,hbd,hdd,hn,hnd,hlen,hok⟩:=hd
 obtain⟨D,hown,hf⟩:=hdd.mp
 have hperm:=azc (L:=L) hown hf (fun x=>by simp) (fun m hm=>(hdd.ins m hm).1) hnd
 have hsz:=hown.size_le
 have b0:w.cell? ⟨bd,0,none⟩=some (.map (some bm)):=hbd.cell 0
 have hin: ∀q∈(L.map Mk.point).mergeSort (fun x y=>decide (x≤y)),InI q:=fun q hq=>by
  have:=(List.mergeSort_perm (L.map Mk.point) (fun x y=>decide (x≤y))).subset hq
  obtain⟨m,hm,rfl⟩:=List.mem_map.1 this
  exact(hdd.ins m hm).1
 have hsl:((L.map Mk.point).mergeSort (fun x y=>decide (x≤y))).length≤4096:=by rw[List.length_mergeSort,List.length_map];exact hlen
 unfold aai
 go_enter Tryz.func22,Tryz.ntmps22
 go_wp2_with fail
 refine(azd (some bm) w).mono ?_
 rintro e w1 ⟨rfl,rfl⟩
 go_wp2_with fail
 refine(ar6 bm n D axd w hown (by unfold maxLen;omega) (by omega)).mono ?_
 rintro e w2 ⟨v2,ss,rfl,hss,hrow,hb2⟩
 have hmer:ss.mergeSort (fun x y=>decide (x≤y))=(L.map Mk.point).mergeSort (fun x y=>decide (x≤y)):=mergeSort_of_perm_i (hss.trans hperm.symm)
 rw[hmer] at hrow
 have hssl:ss.length=((L.map Mk.point).mergeSort (fun x y=>decide (x≤y))).length:=by rw[←hmer,List.length_mergeSort]
 rw[hssl] at hrow
 obtain⟨pts,HPTS⟩: ∃pts,Hid ((L.map Mk.point).mergeSort (fun x y=>decide (x≤y))=pts):=⟨_,rfl⟩
 rw[HPTS.out] at hrow hin hsl
 have hkey:IOwn w2 (w.heap.size+1) v2 pts:=hrow
 have hb02:Below w.heap.size w w2:=((Below.refl w.heap.size w).alloc (Nat.le_refl _) (.cells #[.map (some bm)] 101)).trans (hb2.mono (by omega))
 have hd2:=hd0.below hb02
 obtain⟨ak,ck,rfl⟩:=hkey.val
 have hki:=hkey.ints
 clear hrow hkey hmer hssl hss hperm hsz b0 hf hown hb2
 have hbd2:=hbd.below hb02 hbd.lt
 have hdd2:=hdd.below hb02
 clear hdd hd0
 go_wp2_with fail
 go_loopw [3,16] (fun v i wr=> ∃(k:Nat) (ps:List (PM×Value)),k≤pts.length∧i=.int .i64 k∧MOwn wr w2.heap.size v ps∧ps.length=k∧Hid (ps.map Prod.fst=(pts.take k).map fun p=>(⟨p,aab L p,aac L p⟩:PM))∧Below w2.heap.size w2 wr) (fun _ i _=>pts.length-(intOf i).toNat)
 case atStart=>exact⟨0,[],by omega,rfl,MOwn.nil _ _,rfl,by show _=_;simp,Below.refl _ _⟩
 case round=>
  obtain⟨k,ps,hk,rfl,hmo,hpl,HP,hbel⟩:=hrel
  subst hpl
  by_cases hlt:ps.length<pts.length
  ·obtain⟨bp,op,hao,hnk,hblt,hcell⟩:=(hki.below hbel (Nat.le_refl _)).cell (fun e=>by rw[e] at hlt;simp at hlt)
   have hcj:=hcell ps.length hlt
   rw[show pts[ps.length]?.getD 0=pts[ps.length] by simp[List.getElem?_eq_getElem hlt]] at hcj
   have hqI:=hin _ (List.getElem_mem hlt)
   have htk:pts.take (ps.length+1)=pts.take ps.length++[pts[ps.length]]:=List.take_succ_eq_append_getElem hlt
   generalize pts[ps.length]=q at hcj hqI htk
   have HP2:Hid ((ps.map Prod.fst)++[(⟨q,aab L q,aac L q⟩:PM)]=(pts.take (ps.length+1)).map fun p=>(⟨p,aab L p,aac L p⟩:PM)):=by show _=_;rw[htk,List.map_append,HP.out];rfl
   subst hao
   obtain⟨av,cv,rfl⟩:=aay hmo.1
   have hddr:=hdd2.below hbel
   have hbdr:=hbd2.below hbel hbd2.lt
   have b0:wr.cell? ⟨bd,0,none⟩=some (.map (some bm)):=hbdr.cell 0
   obtain⟨a,kk,cap,a2,k2,cap2,hl,_,hpi,hkA,hkl,_,_,hk2,_⟩:=hddr.look hqI
   have hl':=hl wr rfl
   have hb1:=(Below.refl wr.heap.size wr).alloc (Nat.le_refl _) (.cells #[.int .i64 (aab L q),.slice a kk cap,.slice a2 k2 cap2] 141)
   have hbn:=Blk.new wr 141 #[.int .i64 (aab L q),.slice a kk cap,.slice a2 k2 cap2]
   have hmo1:=hmo.after hb1
   have hpi1:=(hpi.below hb1 (Nat.le_refl _)).mono hb1.size
   have HPLN:Hid ((aac L q).length≤131072):=by show _≤_;omega
   clear hcell hnk htk hkA hk2 hl HP hpi
   go_upto_region 8 with fail
   generalize wr.alloc (.cells #[.int .i64 (aab L q),.slice a kk cap,.slice a2 k2 cap2] 141)=W at hb1 hbn hmo1 hpi1⊢
   have s0:W.drew.cell? ⟨wr.heap.size,0,none⟩=some (.int .i64 (aab L q))∧W.drew.cell? ⟨wr.heap.size,1,none⟩=some (.slice a kk cap):=⟨hbn.cell 0,hbn.cell 1⟩
   have hwsz:w2.heap.size≤W.heap.size:=Nat.le_trans hbel.size hb1.size
   have HCL:Hid (Calls Tryz.prog 60 #[.slice a kk cap] W.drew fun e w'=> ∃a' k' c',e=.returned (.slice a' k' c')∧IOwn w' W.drew.heap.size (.slice a' k' c') (aac L q)∧Below W.drew.heap.size W.drew w'):=ard (n₀:=W.heap.size) a kk cap (aac L q) W.drew hpi1 HPLN.out
   obtain⟨i0,hi0,hz0,hz1,hz2⟩:=info_parts azn
   have HMO:Hid (MOwn W.drew w2.heap.size (.slice av ps.length cv) ps):=hmo1
   have HBN:Hid (Blk W.drew wr.heap.size 141 #[.int .i64 (aab L q),.slice a kk cap,.slice a2 k2 cap2]):=hbn
   have hps4:ps.length+1≤maxLen:=by unfold maxLen;omega
   have hps5:(ps.length+1)*40≤140737488355328:=by omega
   clear hmo1 hbn hl' b0 hbdr hddr hcj hpi1
   go_region_held_law (fun x=>x.cell? ⟨wr.heap.size,0,none⟩=some (.int .i64 (aab L q))∧x.cell? ⟨wr.heap.size,1,none⟩=some (.slice a kk cap)) (first | exact s0 | assumption | exact⟨hbn3.out.cell 0,hbn3.out.cell 1⟩ | exact⟨hbn4.out.cell 0,hbn4.out.cell 1⟩ | exact⟨hbn5.out.cell 0,hbn5.out.cell 1⟩)
    (first
     | (refine step_append_lies _ (by rfl) _ _ _ (by rfl) w2.heap.size 120 i0 _ 3 40 Tryz.underlying26 hi0 hz0 hz1 hz2 rfl (by omega) (.slice av ps.length cv) ps.length (abu ps) (by rfl) (World.ownsRow.alloc hmo3.out.1 _) ⟨w3.heap.size,0,none⟩ 1 1 [.int .i64 q,.int .i64 (aab L q),.slice a3 k3 c3] (by rfl) (by rfl) (World.news_of_block (cs:= #[.int .i64 q,.int .i64 (aab L q),.slice a3 k3 c3]) (t:=120) (fr:=(0,0)) (heap_alloc_new w3 _)) (by simp[Value.oneCell']) (by omega) hps4 hps5 hsz3' (w3.heap.size+1) (by simp) ?_;intro g5 cap5 w5 hown5 hgrow5 hat5 hlt5;have hbn5:Hid (Blk w5 wr.heap.size 141 #[.int .i64 (aab L q),.slice a kk cap,.slice a2 k2 cap2]):=(hgrow5.block wr.heap.size hbn4.out.lt (aba (World.ownsRow.alloc hmo3.out.1 _) hbn4.out (by decide))).trans hbn4.out)
     | (go_at_call 60;refine HCL.out.mono ?_;rintro e w3 ⟨a3,k3,c3,rfl,hown3,hb3⟩;have hbn3:Hid (Blk w3 wr.heap.size 141 #[.int .i64 (aab L q),.slice a kk cap,.slice a2 k2 cap2]):=HBN.out.below hb3 HBN.out.lt;have hbn4:Hid (Blk (w3.alloc (.cells #[.int .i64 q,.int .i64 (aab L q),.slice a3 k3 c3] 120)) wr.heap.size 141 #[.int .i64 (aab L q),.slice a kk cap,.slice a2 k2 cap2]):=(Below.heap_alloc w3 _ _ hbn3.out.lt).trans hbn3.out;have hmo3:Hid (MOwn w3 w2.heap.size (.slice av ps.length cv) ps):=HMO.out.after hb3;have hsz3':w2.heap.size≤(w3.alloc (.cells #[.int .i64 q,.int .i64 (aab L q),.slice a3 k3 c3] 120)).heap.size:=Nat.le_trans hwsz (Nat.le_trans hb3.size (by simp))))
   have HBEL5:Hid (Below w2.heap.size w2 w5):=((((hbel.trans (hb1.mono hbel.size)).trans (abx W 1 _)).trans (Below.mono hb3 hwsz)).alloc (Nat.le_trans hwsz hb3.size) _).grown hgrow5 hsz3' (fun j hj=>(aal hmo3.out.1 hj).1)
   have HMO5:Hid (MOwn w5 w2.heap.size (.slice (some ⟨g5,0,none⟩) (ps.length+1) cap5) (ps++[(⟨q,aab L q,aac L q⟩,.slice a3 k3 c3)])):=MOwn.snoc (o:=.cells #[.int .i64 q,.int .i64 (aab L q),.slice a3 k3 c3] 120) (m:=⟨q,aab L q,aac L q⟩) hmo3.out (hown3.mono hwsz) hown5 hgrow5
   clear hmo3 hown5 hgrow5 hbn3 hbn4 hbn5 hown3 hb3 hat5
   go_wp2_with fail
   go_roundw
   case rel=>exact⟨ps.length+1,ps++[(⟨q,aab L q,aac L q⟩,.slice a3 k3 c3)],by omega,by simp,HMO5.out,by simp,by show _=_;rw[List.map_append];exact HP2.out,HBEL5.out⟩
   case measure=>simp only[intOf];omega
  ·have HF:Hid (ps.map Prod.fst=pts.map fun p=>(⟨p,aab L p,aac L p⟩:PM)):=by show _=_;rw[HP.out,List.take_of_length_le (by omega)]
   obtain⟨av,cv,rfl⟩:=aay hmo.1
   clear HP
   go_wp2_with fail
   go_ret
   exact⟨_,_,_,ps,rfl,⟨aah hmo.1 hb02.size,fun x hx=>(hmo.2 x hx).mono hb02.size⟩,by rw[HPTS.out];exact HF.out,hb02.trans (hbel.mono hb02.size)⟩
end Go.Proofs.YtpfkoldfbecdlaaGreatDoor
