/- Contracts and lemmas (nothing is claimed here). -/
import Derived.Test.YtfhpgmlfgjfknaaGreatDoorJ25
namespace Go.Proofs.YtfhpgmlfgjfknaaGreatDoor
open Go.RowKit Go.Vf Go.Maps
theorem aq6 (x:Int)(w:World):Calls Tryz.prog 74 #[.int .i64 x] w fun e w'=>e=.returned (.bool false)∧w'=w:=by
 go_enter Tryz.func74,Tryz.ntmps74
 go_wp2
 go_ret
 exact⟨rfl,rfl⟩
theorem auj (key:Int→Int)(x y:Int)(w:World):Calls Tryz.prog 42 #[.int .i64 (key x),.int .i64 (key y)] w fun e w'=>e=.returned (.int .i64 (ahu key x y))∧w'=w:=by
 generalize hc:ahu key x y=c
 have HC:Hid (ahu key x y=c):=hc
 clear hc
 go_enter Tryz.func42,Tryz.ntmps42
 go_wp2_with fail
 refine(aq6 (key x) w).mono ?_
 rintro e w1 ⟨rfl,rfl⟩
 go_wp2_with fail
 refine(aq6 (key y) w1).mono ?_
 rintro e w2 ⟨rfl,rfl⟩
 by_cases h1:key x<key y
 ·have E:Hid (c= -1):=by show _=_;rw[←HC.out];unfold ahu;rw[if_pos h1]
  go_wp2
  go_ret
  rw[E.out]
  exact⟨rfl,rfl⟩
 ·by_cases h2:key y<key x
  ·have E:Hid (c=1):=by show _=_;rw[←HC.out];unfold ahu;rw[if_neg h1,if_pos h2]
   go_wp2
   go_ret
   rw[E.out]
   exact⟨rfl,rfl⟩
  ·have E:Hid (c=0):=by show _=_;rw[←HC.out];unfold ahu;rw[if_neg h1,if_neg h2]
   go_wp2
   go_ret
   rw[E.out]
   exact⟨rfl,rfl⟩
theorem ac3 (w:World)(q:Nat):Below w.heap.size w (w.drewN q):=⟨rfl,rfl,rfl,Nat.le_refl _,fun _ _=>rfl⟩
set_option maxHeartbeats 8000000 in
set_option maxRecDepth 20000 in
theorem aun (bx bd:Nat)(L:List Mk)(E:Int→List Int)(x y:Int)(w:World)(hx:InI x)(hy:InI y)(hb:w.cell? ⟨bx,0,none⟩=some (.pointer (some ⟨bd,0,none⟩)))(hd:DataAt w bd L E):
  Calls Tryz.prog 41 #[.int .i64 x,.int .i64 y,.pointer (some ⟨bx,0,none⟩)] w fun e w'=>e=.returned (.int .i64 (ahu (aaa L) x y))∧ ∃q,w'=w.drewN q:=by
 have hb': ∀q,(w.drewN q).cell? ⟨bx,0,none⟩=some (.pointer (some ⟨bd,0,none⟩)):=fun q=>hb
 have h1: ∀p q,InI p→Calls Tryz.prog 43 #[.pointer (some ⟨bd,0,none⟩),.int .i64 p] (w.drewN q) fun e w'=>e=.returned (.int .i64 (aaa L p))∧w'=w.drewN q:=fun p q hp=>(ajd bd L E p _ hp (hd.below (ac3 w q))).mono fun e w' h=>⟨h.1,h.2.symm⟩
 have h3: ∀q,Calls Tryz.prog 42 #[.int .i64 (aaa L x),.int .i64 (aaa L y)] (w.drewN q) fun e w'=>e=.returned (.int .i64 (ahu (aaa L) x y))∧w'=w.drewN q:=fun q=>auj (aaa L) x y _
 generalize ahu (aaa L) x y=c at h3⊢
 generalize aaa L=K at h1 h3
 clear hd hb
 go_enter Tryz.func41,Tryz.ntmps41
 go_wp2_with fail
 go_quiet (first | (go_at_call 43;exact Calls.quiet_of_same (h1 _ _ (by assumption))) | (go_at_call 42;exact Calls.quiet_of_same (h3 _)))
 go_wp2
 go_ret
 exact⟨rfl,_,rfl⟩
structure RowEnds (cls:Int→Int)(X:List Int)(at0 en:Nat):Prop where
 le:at0≤en
 top:en≤X.length
 none: ∀i,at0≤i→i<en→cls (X.getD i 0)≠0
 stop:en<X.length→cls (X.getD en 0)=0
set_option maxHeartbeats 4000000 in
set_option maxRecDepth 20000 in
theorem awq (bd:Nat)(L:List Mk)(E:Int→List Int)(a:Option Addr)(kp cap at0 n₀:Nat)(X:List Int)(w:World)(hX: ∀q∈X,InI q)(hd:DataAt w bd L E)(hin:Ints n₀ w (.slice a kp cap) X)(hkp:kp=X.length)(hkl:kp≤68719476736)(hat:at0≤kp):
  Calls Tryz.prog 44 #[.pointer (some ⟨bd,0,none⟩),.slice a kp cap,.int .i64 at0] w fun e w'=> ∃en:Nat,e=.returned (.int .i64 en)∧RowEnds (aaa L) X at0 en∧w=w':=by
 have HKP:Hid (kp=X.length):=hkp
 have HI:Aside (Ints n₀ w (.slice a kp cap) X):=hin
 have hX':Aside _:=hX
 have hd':Aside _:=hd
 clear hkp hin hX hd
 go_enter Tryz.func44,Tryz.ntmps44
 go_wp2_with fail
 go_loopw [2] (fun i wr=> ∃(k:Nat),k≤kp∧i=.int .i64 k∧at0≤k∧Hid (∀i,at0≤i→i<k→aaa L (X.getD i 0)≠0)∧wr=w) (fun i _=>kp-(intOf i).toNat)
 case atStart=>exact⟨at0,hat,rfl,Nat.le_refl _,fun i h1 h2=>absurd h2 (by omega),rfl⟩
 case round=>
  obtain⟨k,hk,rfl,hak,HK,rfl⟩:=hrel
  by_cases hlt:k<kp
  ·have hltz:(k:Int)<(kp:Int):=by omega
   have hltp:k<X.length:=by rw[←HKP.out];exact hlt
   obtain⟨bp,op,hao,hnk,hblt,hcell⟩:=HI.out.cell (fun e=>by rw[e] at hltp;simp at hltp)
   have hcj:=hcell k hltp
   have hg:X[k]?.getD 0=X.getD k 0:=(List.getD_eq_getElem?_getD ..).symm
   rw[hg] at hcj
   have hqI:=hX'.out _ (ahl hltp)
   have hS: ∀c,c=aaa L (X.getD k 0)→c=0→RowEnds (aaa L) X at0 k:=fun c e e0=>⟨hak,by omega,HK.out,fun _=>by rw[←e,e0]⟩
   have hN: ∀c,c=aaa L (X.getD k 0)→c≠0→Hid (∀i,at0≤i→i<k+1→aaa L (X.getD i 0)≠0):=fun c e e0 i h1 h2=>by
    rcases Nat.lt_or_ge i k with h | h
    ·exact HK.out i h1 h
    ·obtain rfl:i=k:=by omega
     rw[←e];exact e0
   have hc:=ajd bd L E (X.getD k 0) wr hqI hd'.out
   generalize X.getD k 0=q at hcj hqI hS hN hc
   generalize aaa L q=c at hS hN hc
   have hS:=hS c rfl
   have hN:=hN c rfl
   have HS:Aside _:=hS
   have HN:Aside _:=hN
   subst hao
   clear hcell hnk hltp hg HK hS hN
   by_cases hc0:c=0
   ·have hfin:=HS.out hc0
    subst hc0
    go_wp2_with fail
    refine hc.mono ?_
    rintro e w1 ⟨rfl,rfl⟩
    go_wp2
    go_ret
    exact⟨k,rfl,hfin,rfl⟩
   ·have hfin:=HN.out hc0
    have hc0':(c==0)=false:=by simpa using hc0
    go_wp2_with fail
    refine hc.mono ?_
    rintro e w1 ⟨rfl,rfl⟩
    go_wp2
    go_roundw
    case rel=>exact⟨k+1,by omega,by simp,by omega,hfin,trivial⟩
    case measure=>simp only[intOf];omega
  ·have hltz: ¬(k:Int)<(kp:Int):=by omega
   have hfin:RowEnds (aaa L) X at0 k:=⟨hak,by rw[←HKP.out];omega,HK.out,fun h=>absurd h (by rw[←HKP.out];omega)⟩
   clear HK
   go_wp2
   go_ret
   exact⟨k,rfl,hfin,rfl⟩
end Go.Proofs.YtfhpgmlfgjfknaaGreatDoor
namespace Go.Proofs.YtfhpgmlfgjfknaaGreatDoor
open Go.RowKit Go.Vf Go.Maps Go.Shelf Go.Sort Go.Lib
theorem ara {P R:List Int}{j:Nat}(h:j<P.length):(P++R).getD j 0=P.getD j 0:=by
 simp only[List.getD_eq_getElem?_getD]
 rw[List.getElem?_append_left h]
theorem af5 {P R:List Int}{j:Nat}(h:P.length≤j):(P++R).getD j 0=R.getD (j-P.length) 0:=by
 simp only[List.getD_eq_getElem?_getD]
 rw[List.getElem?_append_right h]
theorem SL.heap {w0 W:World}{g off n:Nat}{D:List Int}{cur:Array Value}{e:TypeId}{fr:Nat×Nat}(h:SL w0 g off n D W)(hb:w0.heap[g]? =some (.cells cur e fr)):W.heap[g]? =some (.cells (putCells (Value.int .i64) off D.toArray cur) e fr):=by
 obtain⟨m,os,rfl⟩:=h.sw
 have hg:g<w0.heap.size:=(Array.getElem?_eq_some_iff.1 hb).1
 unfold sortWorld
 rw[Go.Sort.heap_grow_old _ _ (by simpa[size_putRow] using hg)]
 simp[putRow,mapBlock,Sort.ahead,Array.getElem?_modify,hb,onCells]
theorem SL.below {w0 W:World}{g off n B:Nat}{D:List Int}(h:SL w0 g off n D W)(hB:B≤g)(hw:B≤w0.heap.size):Below B w0 W:=by
 have hle:=h.sw.le
 obtain⟨m,os,rfl⟩:=h.sw
 refine⟨rfl,rfl,rfl,hle,fun k hk=> ?_⟩
 unfold sortWorld
 rw[Go.Sort.heap_grow_old _ _ (by rw[size_putRow];exact Nat.lt_of_lt_of_le hk hw)]
 have:g≠k:=by omega
 simp[putRow,mapBlock,Sort.ahead,Array.getElem?_modify,this]
theorem SL.own {w0 W:World}{base g cap kp off n:Nat}{X P A Q C:List Int}(h:SL w0 g off n C W)(hX:IOwn w0 base (.slice (some ⟨g,0,none⟩) kp cap) X)(hs:X=P++A++Q)(hp:P.length=off)(ha:A.length=n):IOwn W base (.slice (some ⟨g,0,none⟩) kp cap) (P++C++Q):=by
 obtain⟨h1,h2⟩:=hX
 have hl:(P++C++Q).length=X.length:=by rw[hs];simp only[List.length_append,h.len,ha]
 rcases h2 with ⟨h2,_⟩ | ⟨g',cap',cur,e1,hb,hh,hc1,hc2,hc3,hc4⟩
 ·cases h2
 cases e1
 refine⟨by rw[List.length_map,Nat.mul_one],.inr ⟨g,cap,_,by rw[hl],hb,h.heap hh,by rw[hl];exact hc1,hc2,?_,?_⟩⟩
 ·rw[←hc3];simp[putCells]
 ·rw[Nat.mul_one] at hc4⊢
  rw[hl]
  apply List.ext_getElem?
  intro j
  by_cases hj:j<X.length
  ·have hcj:cur[j]? =some (.int .i64 (X.getD j 0)):=by
    have hx:(X.map (Value.int .i64))[j]? =some (.int .i64 (X.getD j 0)):=by simp[List.getD_eq_getElem?_getD,hj]
    rw[←hc4,List.getElem?_take_of_lt hj,Array.getElem?_toList] at hx
    exact hx
   have hy:((P++C++Q).map (Value.int .i64))[j]? =some (.int .i64 ((P++C++Q).getD j 0)):=by rw[List.getElem?_map];simp only[List.getD_eq_getElem?_getD];rw[List.getElem?_eq_getElem (by omega)];rfl
   rw[hy,List.getElem?_take_of_lt hj,Array.getElem?_toList]
   unfold putCells
   rw[Array.getElem?_mapIdx,hcj,Option.map_some]
   have hlen:=h.len
   by_cases hin:off≤j∧j<off+C.toArray.size
   ·rw[if_pos hin,afy]
    have h2:j<off+C.length:=by simpa using hin.2
    rw[acy (by omega) (by omega),hp]
   ·rw[if_neg hin]
    have h2: ¬(off≤j∧j<off+C.length):=by simpa using hin
    congr 2
    rw[hs]
    rcases Nat.lt_or_ge j off with c | c
    ·rw[List.append_assoc,List.append_assoc,ara (by omega),ara (by omega)]
    ·rw[af5 (by rw[List.length_append];omega),af5 (by rw[List.length_append];omega)]
     congr 1
     simp only[List.length_append]
     omega
  ·rw[List.getElem?_take_eq_none (by omega),List.getElem?_eq_none (by rw[List.length_map];omega)]
theorem InI.i64 {x:Int}(h:InI x):I64 x:=h
theorem I64.inI {x:Int}(h:I64 x):InI x:=h
theorem atc:OneCell (Value.int .i64):=fun _=>rfl
structure FormAt (cls:Int→Int)(pts X:List Int)(at0:Nat):Prop where
 al:Alike0 cls pts X
 co:CO cls (X.take at0)
 ahead:at0=0∨X.length<at0∨cls (X.getD (at0-1) 0)=0
 top:at0≤X.length+1
 mem: ∀x∈X,x∈pts
 len:X.length=pts.length
theorem FormAt.start {cls:Int→Int}{pts:List Int}:FormAt cls pts pts 0:=⟨Alike0.refl _,by rw[List.take_zero];trivial,.inl rfl,by omega,fun _ h=>h,rfl⟩
theorem FormAt.done {cls:Int→Int}{pts X:List Int}{at0:Nat}(h:FormAt cls pts X at0)(hn:X.length≤at0):FormOf cls pts X:=⟨by have:=h.co;rwa [List.take_of_length_le hn] at this,h.al⟩
theorem ak6 (X:List Int){a b:Nat}(h:a≤b):X=X.take a++(X.drop a).take (b-a)++X.drop b:=by
 have e1:=(List.take_append_drop a X).symm
 have e2:=(List.take_append_drop (b-a) (X.drop a)).symm
 rw[List.drop_drop,show a+(b-a)=b from by omega] at e2
 rw[List.append_assoc,←e2]
 exact e1
theorem aq9 {P:List Int}{x:Int}(h:P.getLast? =some x):P≠ []∧P.getD (P.length-1) 0=x:=by
 cases P with
 | nil=>cases h
 | cons y t=>
  refine⟨by simp,?_⟩
  rw[List.getLast?_eq_getElem?] at h
  rw[List.getD_eq_getElem?_getD,h];rfl
theorem FormAt.step {cls:Int→Int}(hc0: ∀x,0≤cls x){pts X C:List Int}{at0 en:Nat}(h:FormAt cls pts X at0)(hat:at0<X.length)(hr:RowEnds cls X at0 en)(hs:SortedK cls C)(ha:AlikeK cls ((X.drop at0).take (en-at0)) C)(hl:C.length=en-at0):
  FormAt cls pts (X.take at0++C++X.drop en) (en+1):=by
 have hX:=ak6 X hr.le
 have hle:=hr.le
 have htop:=hr.top
 have lP:(X.take at0).length=at0:=by rw[List.length_take];omega
 have lA:((X.drop at0).take (en-at0)).length=en-at0:=by rw[List.length_take,List.length_drop];omega
 have lX:(X.take at0++C++X.drop en).length=X.length:=by simp only[List.length_append,lP,hl,List.length_drop];omega
 have hA: ∀x∈(X.drop at0).take (en-at0),cls x≠0:=by
  refine aze (P:=X.take at0) (Q:=X.drop en) (fun t h1 h2=> ?_)
  rw[←hX]
  exact hr.none t (by omega) (by omega)
 have hb:CO cls (X.take at0++C):=by
  refine CO.append h.co hs.co (fun x y hx hy _=> ?_)
  obtain⟨hne,e⟩:=aq9 hx
  have:cls x=0:=by
   rcases h.ahead with h1 | h1 | h1
   ·exfalso;rw[h1,List.take_zero] at hne;exact hne rfl
   ·omega
   ·rw[lP] at e
    have e2:(X.take at0).getD (at0-1) 0=X.getD (at0-1) 0:=by
     have h0:0<at0:=by
      rcases Nat.eq_zero_or_pos at0 with e0 | e0
      ·rw[e0,List.take_zero] at hne;exact absurd rfl hne
      ·exact e0
     simp only[List.getD_eq_getElem?_getD]
     rw[List.getElem?_take_of_lt (by omega)]
    rw[←e,e2];exact h1
  rw[this];exact hc0 y
 have hPC:(X.take at0++C).length=en:=by rw[List.length_append,lP,hl];omega
 refine⟨?_,?_,?_,by rw[lX];omega,?_,by rw[lX];exact h.len⟩
 ·refine h.al.trans ?_
  have:Alike0 cls (X.take at0++(X.drop at0).take (en-at0)++X.drop en) (X.take at0++C++X.drop en):=Alike0.append (Alike0.append (Alike0.refl _) (ha.alike0 hA)) (Alike0.refl _)
  rwa [←hX] at this
 ·rw[List.take_append,hPC,List.take_of_length_le (by omega),show en+1-en=1 from by omega]
  cases hd:X.drop en with
  | nil=>simpa using hb
  | cons q r=>
   have hlt:en<X.length:=by
    rcases Nat.lt_or_ge en X.length with h1 | h1
    ·exact h1
    ·rw[List.drop_of_length_le h1] at hd;cases hd
   have hq:cls q=0:=by
    have e:=hr.stop hlt
    rw[hX,af5 (by rw[List.length_append,lP,lA];omega),List.length_append,lP,lA,show en-(at0+(en-at0))=0 from by omega,hd] at e
    exact e
   refine CO.append hb (by trivial) (fun x y _ hy h0=> ?_)
   simp only[List.take_succ_cons,List.head?_cons,Option.some.injEq] at hy
   rw[←hy] at h0
   exact absurd hq h0
 ·rcases Nat.lt_or_ge en X.length with h1 | h1
  ·refine .inr (.inr ?_)
   rw[show en+1-1=en from by omega,af5 (by omega),hPC,Nat.sub_self]
   have e:=hr.stop h1
   rw[hX,af5 (by rw[List.length_append,lP,lA];omega),List.length_append,lP,lA,show en-(at0+(en-at0))=0 from by omega] at e
   exact e
  ·exact .inr (.inl (by rw[lX];omega))
 ·intro x hx
  refine h.mem x ?_
  rcases List.mem_append.1 hx with hx | hx
  ·rcases List.mem_append.1 hx with hx | hx
   ·exact List.mem_of_mem_take hx
   ·exact List.mem_of_mem_drop (List.mem_of_mem_take (ha.symm.mem hx))
  ·exact List.mem_of_mem_drop hx
structure FormW (L:List Mk)(E:Int→List Int)(w1:World)(bd bx g kp cc:Nat)(pts X:List Int)(at0:Nat)(wr:World):Prop where
 own:IOwn wr w1.heap.size (.slice (some ⟨g,0,none⟩) kp cc) X
 below:Below w1.heap.size w1 wr
 form:FormAt (aaa L) pts X at0
theorem ass {w:World}{base g kp cc off n:Nat}{X A:List Int}(h:IOwn w base (.slice (some ⟨g,0,none⟩) kp cc) X)(hA:A=(X.drop off).take n)(ho:off+n≤X.length)(hI: ∀x∈X,InI x):RowN w g off n∧SL w g off n A w:=by
 have hlen:A.length=n:=by rw[hA,List.length_take,List.length_drop];omega
 rcases h.form with ⟨h1,_⟩ | ⟨g',cap',e1,hb,hlt,hcap,hcell,hfr⟩
 ·cases h1
 cases e1
 have hH:Holds (Value.int .i64) w g off A.toArray:=fun j hj=>by
  have hj':j<n:=by simpa[hlen] using hj
  refine⟨?_,hfr _⟩
  rw[hcell (off+j) (by omega),afy,hA]
  simp only[List.getD_eq_getElem?_getD]
  rw[List.getElem?_take_of_lt hj',List.getElem?_drop]
 exact⟨⟨A,hlen,⟨atc,hH,hlt⟩⟩,⟨SW.start hH,hlen,fun x hx=>(hI x (List.mem_of_mem_drop (List.mem_of_mem_take (by rw[hA] at hx;exact hx)))).i64⟩⟩
def FormPost (L:List Mk)(E:Int→List Int)(w:World)(ps:List Int)(e:Ending)(w':World):Prop:= ∃g k c X,e=.returned (.slice (some ⟨g,0,none⟩) k c)∧IOwn w' w.heap.size (.slice (some ⟨g,0,none⟩) k c) X∧FormOf (aaa L) (abv E ps) X∧((∀x∈X,x∈abv E ps)∧X.length=(abv E ps).length)∧Below w.heap.size w w'
set_option maxHeartbeats 8000000 in
set_option maxRecDepth 20000 in
theorem a4b (bd:Nat)(L:List Mk)(E:Int→List Int)(a:Option Addr)(kp cap:Nat)(ps:List Int)(w:World)(hps: ∀q∈ps,InI q)(hpt: ∀q∈abv E ps,InI q)(hc0: ∀p,0≤aaa L p)(hd:DataAt w bd L E)(hin:Ints w.heap.size w (.slice a kp cap) ps)(hkp:kp=ps.length)(hkl:(abv E ps).length≤68719476736)(hkl2:kp≤68719476736):
  Calls Tryz.prog 20 #[.pointer (some ⟨bd,0,none⟩),.slice a kp cap] w fun e w'=>FormPost L E w ps e w':=by
 have hb1:=(Below.refl w.heap.size w).alloc (Nat.le_refl _) (.cells #[.pointer (some ⟨bd,0,none⟩)] 43)
 have hd1:=hd.below hb1
 have hbx:=Blk.new w 43 #[.pointer (some ⟨bd,0,none⟩)]
 have hin1:Ints (w.alloc (.cells #[.pointer (some ⟨bd,0,none⟩)] 43)).heap.size _ (.slice a kp cap) ps:=(hin.below hb1 (Nat.le_refl _)).mono hb1.size
 have hs1:(w.alloc (.cells #[.pointer (some ⟨bd,0,none⟩)] 43)).heap.size=w.heap.size+1:=by simp
 clear hin hd
 go_enter Tryz.func20,Tryz.ntmps20
 go_upto_region 1 with fail
 generalize w.alloc (.cells #[.pointer (some ⟨bd,0,none⟩)] 43)=w1 at hb1 hd1 hbx hin1 hs1⊢
 have hbc:w1.cell? ⟨w.heap.size,0,none⟩=some (.pointer (some ⟨bd,0,none⟩)):=hbx.cell 0
 have HS1:Hid (w1.heap.size=w.heap.size+1):=hs1
 have HKP:Hid (kp=ps.length):=hkp
 clear hs1 hkp
 go_wp2_with fail
 refine(apr bd L E a kp cap ps w1 hps hd1 hin1 HKP.out hkl hkl2).mono ?_
 rintro e w2 ⟨g,kq,cq,rfl,hown2,hbel2⟩
 obtain⟨av,cv,hv⟩:=hown2.val
 have hkq:kq=(abv E ps).length:=by simpa using (Value.slice.inj hv).2.1
 have HKQ:Hid (kq=(abv E ps).length):=hkq
 have hkql:kq≤68719476736:=by omega
 have H0:Aside (FormW L E w1 bd w.heap.size g kq cq (abv E ps) (abv E ps) 0 w2):=⟨hown2,hbel2,FormAt.start⟩
 have HG:Hid (w1.heap.size≤g):=by
  rcases hown2.form with ⟨h1,_⟩ | ⟨g',cap',e1,hb,_⟩
  ·cases h1
  ·cases e1;exact hb
 have HPT:Aside _:=hpt
 have HC0:Aside _:=hc0
 have HD:Aside (DataAt w1 bd L E):=hd1
 have HB1:Aside (Below w.heap.size w w1):=hb1
 have hbc2:w2.cell? ⟨w.heap.size,0,none⟩=some (.pointer (some ⟨bd,0,none⟩)):=(hbel2.cell (p:=⟨w.heap.size,0,none⟩) (show w.heap.size<w1.heap.size by rw[HS1.out];omega)).trans hbc
 clear hown2 hbel2 hv hkq hpt hc0 hd1 hb1 hin1 hbx hkl hkl2 HKP hps
 go_wp2_with fail
 go_loopg [7] (kq+1) (fun g1 vi wr=> ∃(at0:Nat) (X:List Int),vi=.int .i64 at0∧at0≤kq+1∧kq+1-at0≤g1∧Aside (FormW L E w1 bd w.heap.size g kq cq (abv E ps) X at0 wr))
 case atStart=>exact⟨0,abv E ps,rfl,by omega,by omega,H0⟩
 case round=>
  have HBC:Aside (w1.cell? ⟨w.heap.size,0,none⟩=some (.pointer (some ⟨bd,0,none⟩))):=hbc
  clear H0 hbc hbc2
  obtain⟨at0,X,rfl,hat1,hg1,H1⟩:=hrel
  have hXl:kq=X.length:=by
   obtain⟨av,cv,hv⟩:=H1.out.own.val
   simpa using (Value.slice.inj hv).2.1
  have HXL:Hid (kq=X.length):=hXl
  have hcap:kq≤cq:=by
   rcases H1.out.own.form with ⟨h1,_⟩ | ⟨g',cap',e1,_,_,hb,_⟩
   ·cases h1
   ·cases e1;omega
  by_cases hlt:at0<kq
  ·have hltz:(at0:Int)<(kq:Int):=by omega
   have hbr:wr.cell? ⟨w.heap.size,0,none⟩=some (.pointer (some ⟨bd,0,none⟩)):=(H1.out.below.cell (p:=⟨w.heap.size,0,none⟩) (show w.heap.size<w1.heap.size by rw[HS1.out];omega)).trans HBC.out
   have hdr:DataAt wr bd L E:=HD.out.below H1.out.below
   have hXI: ∀x∈X,InI x:=fun x hx=>HPT.out x (H1.out.form.mem x hx)
   have hre:=awq bd L E (some ⟨g,0,none⟩) kq cq at0 wr.heap.size X wr hXI hdr H1.out.own.ints hXl hkql (by omega)
   have HXI:Aside _:=hXI
   clear hXI hdr hXl
   go_wp2_with fail
   refine hre.mono ?_
   rintro e w3 ⟨en,rfl,hr,rfl⟩
   have hr1:=hr.le
   have hr2:en≤kq:=by rw[HXL.out];exact hr.top
   have hz1:(at0:Int)≤(en:Int):=by omega
   have hz2:(en:Int)≤(cq:Int):=by omega
   have HR:Aside _:=hr
   clear hr hre
   go_wp2_with fail
   have hRS:=ass (off:=at0) (n:=en-at0) H1.out.own rfl (by rw[←HXL.out];omega) HXI.out
   have hCO:apz 41 #[.pointer (some ⟨w.heap.size,0,none⟩)] (aaa L) wr g at0 (en-at0):=fun W D hS x y hx hy=>by
    have hbW:Below w1.heap.size wr W:=hS.below HG.out H1.out.below.size
    have hbA:=H1.out.below.trans hbW
    exact aun w.heap.size bd L E x y W hx.inI hy.inI ((hbA.cell (p:=⟨w.heap.size,0,none⟩) (show w.heap.size<w1.heap.size by rw[HS1.out];omega)).trans HBC.out) (HD.out.below hbA)
   refine(amn hRS.1 (by omega) (fun _ _=>rfl) hCO (cq-at0) wr hRS.2).mono ?_
   rintro e w4 ⟨rfl,C,SC,sC,aC⟩
   have H2:Aside (FormW L E w1 bd w.heap.size g kq cq (abv E ps) (X.take at0++C++X.drop en) (en+1) w4):=
    ⟨SC.own H1.out.own (ak6 X hr1) (by rw[List.length_take,←HXL.out];omega) (by rw[List.length_take,List.length_drop,←HXL.out];omega),
     H1.out.below.trans (SC.below HG.out H1.out.below.size),H1.out.form.step HC0.out (by rw[←HXL.out];exact hlt) HR.out sC aC SC.len⟩
   generalize X.take at0++C++X.drop en=X2 at H2
   clear hRS hCO SC sC aC HR H1 hbr
   go_wp2
   go_roundg (kq+1-(en+1))
   case measure=>omega
   case rel=>exact⟨en+1,X2,by first | rfl | go_num,by omega,Nat.le_refl _,H2⟩
  ·have hltz: ¬(at0:Int)<(kq:Int):=by omega
   clear hXl
   go_wp2_with fail
   go_ret
   have hsz:w.heap.size≤w1.heap.size:=HB1.out.size
   exact⟨g,kq,cq,X,rfl,H1.out.own.mono hsz,H1.out.form.done (by rw[←HXL.out];omega),⟨H1.out.form.mem,H1.out.form.len⟩,HB1.out.trans (H1.out.below.mono hsz)⟩
end Go.Proofs.YtfhpgmlfgjfknaaGreatDoor
namespace Go.Proofs.YtfhpgmlfgjfknaaGreatDoor
open Go.RowKit Go.Vf Go.Maps
def ahx (L:List Mk)(E:Int→List Int)(ps X:List Int):Prop:=FormOf (aaa L) (abv E ps) X
theorem a4q (cls:Int→Int)(c:Int): ∀l:List Int,∃P Q,l=P++Q∧(∀q∈Q,c<cls q)∧ ∀p,P.getLast? =some p→cls p≤c:=by
 intro l
 induction l with
 | nil=>exact⟨[],[],rfl,by simp,by simp⟩
 | cons x t ih=>
  obtain⟨P,Q,rfl,hQ,hP⟩:=ih
  by_cases hp:P=[]
  ·subst hp
   by_cases hx:c<cls x
   ·exact⟨[],x::Q,rfl,fun q hq=>(List.mem_cons.1 hq).elim (fun e=>e▸hx) (hQ q),by simp⟩
   ·exact⟨[x],Q,rfl,hQ,fun p hp=>by simp at hp;subst hp;omega⟩
  ·exact⟨x::P,Q,rfl,hQ,fun p hp'=>hP p (by cases P with | nil=>exact absurd rfl hp | cons a r=>simpa using hp')⟩
theorem at8 {cls:Int→Int}(hc0: ∀x,0≤cls x): ∀l:List Int,∃X,FormOf cls l X∧X.length=l.length∧ ∀x∈X,x∈l:=by
 have key: ∀(n:Nat) (l:List Int),l.length=n→ ∃X,FormOf cls l X∧X.length=l.length∧ ∀x∈X,x∈l:=by
  intro n
  induction n with
  | zero=>intro l h;rw[List.eq_nil_of_length_eq_zero h];exact⟨[],⟨trivial,Alike0.refl _⟩,rfl,by simp⟩
  | succ n ih=>
   intro l h
   have hne:l≠ []:=fun e=>by rw[e] at h;cases h
   obtain⟨t,x,rfl⟩: ∃t x,l=t++[x]:=⟨l.dropLast,l.getLast hne,(List.dropLast_concat_getLast hne).symm⟩
   obtain⟨X,hX,hl,hm⟩:=ih t (by simpa using h)
   by_cases hx:cls x=0
   ·refine⟨X++[x],⟨CO.append hX.co trivial (fun a b _ hb h0=> ?_),hX.al.append (Alike0.refl _)⟩,by simp[hl],fun y hy=> ?_⟩
    ·simp at hb;subst hb;exact absurd hx h0
    ·rcases List.mem_append.1 hy with h | h
     ·exact List.mem_append_left _ (hm y h)
     ·exact List.mem_append_right _ h
   ·obtain⟨P,Q,rfl,hQ,hP⟩:=a4q cls (cls x) X
    have hco:CO cls (P++([x]++Q)):=by
     refine CO.append hX.co.left (CO.append (u:=[x]) trivial hX.co.right (fun a b ha hb _=> ?_)) (fun a b ha hb _=> ?_)
     ·simp at ha;subst ha
      have:b∈Q:=List.mem_of_mem_head? hb
      exact Int.le_of_lt (hQ b this)
     ·simp at hb;subst hb;exact hP a ha
    have hal:Alike0 cls (P++Q++[x]) (P++([x]++Q)):=by
     rw[List.append_assoc]
     refine(Alike0.refl P).append (fun k=> ?_)
     have hq0: ∀q∈Q,cls q≠0∧cls q≠cls x:=fun q hq=>by have:=hQ q hq;have:=hc0 x;omega
     rw[List.filter_append,List.filter_append]
     by_cases hk:cls x=k
     ·have e:Q.filter (fun z=>cls z==0||cls z==k)=[]:=by
       rw[List.filter_eq_nil_iff]
       intro q hq
       have:=hq0 q hq
       simp
       omega
      rw[e];simp
     ·have e: [x].filter (fun z=>cls z==0||cls z==k)=[]:=by
       rw[List.filter_eq_nil_iff]
       intro q hq
       simp at hq;subst hq
       simp
       exact⟨hx,hk⟩
      rw[e];simp
    refine⟨P++([x]++Q),⟨hco,(hX.al.append (Alike0.refl [x])).trans hal⟩,by simp at hl⊢;omega,fun y hy=> ?_⟩
    simp only[List.mem_append,List.mem_singleton] at hy hm⊢
    rcases hy with h | h | h
    ·exact .inl (hm y (.inl h))
    ·exact .inr h
    ·exact .inl (hm y (.inr h))
 exact fun l=>key l.length l rfl
end Go.Proofs.YtfhpgmlfgjfknaaGreatDoor
namespace Go.Vf
section
variable (cls:Int→Int)(fnd:List Int→Bool)
def acr:List Int→Int→List Int→List Int×List Int
 | r,_,[]=>(r,[])
 | r,top,x::xs=>if cls x=0 then (r,x::xs) else if fnd (r++[x])=true∧top<cls x then acr (r++[x]) top xs else ((acr r (max top (cls x)) xs).1,x::(acr r (max top (cls x)) xs).2)
def abz (l:List Int):Nat→Nat
 | 0=>0
 | n+1=>if fnd (l.take (n+1))=true then n+1 else abz l n
def agv (l:List Int):Nat:=abz fnd l (min 8 l.length)
def aei (l:List Int):List Int×List Int:=if agv fnd l=0 then (l.take 1,l.drop 1) else acr cls fnd (l.take (agv fnd l)) 0 (l.drop (agv fnd l))
def a5m:Nat→List Int→List (List Int)
 | 0,_=>[]
 | k+1,l=>if l=[] then [] else (aei cls fnd l).1::a5m k (aei cls fnd l).2
def abo (l:List Int):List (List Int):=a5m cls fnd l.length l
variable {cls:Int→Int}{fnd:List Int→Bool}
theorem arf (l:List Int): ∀n,abz fnd l n≤n
 | 0=>Nat.le_refl _
 | n+1=>by
  unfold abz
  split
  ·exact Nat.le_refl _
  ·exact Nat.le_succ_of_le (arf l n)
theorem an1 (l:List Int): ∀n,0<abz fnd l n→fnd (l.take (abz fnd l n))=true
 | 0=>fun h=>absurd h (by simp[abz])
 | n+1=>by
  unfold abz
  split
  ·intro _;assumption
  ·exact an1 l n
theorem ajx (l:List Int)(a:Nat): ∀b,a≤b→(∀n,a<n→n≤b→fnd (l.take n)=false)→abz fnd l b=abz fnd l a
 | 0=>fun h _=>by rw[Nat.le_zero.1 h]
 | b+1=>fun h hn=>by
  by_cases e:a=b+1
  ·rw[e]
  ·have h1:=hn (b+1) (by omega) (Nat.le_refl _)
   rw[abz,h1]
   simp only[Bool.false_eq_true,if_false]
   exact ajx l a b (by omega) (fun n g1 g2=>hn n g1 (by omega))
theorem al3 (l m:List Int): ∀n,(∀k,k≤n→l.take k=m.take k)→abz fnd l n=abz fnd m n
 | 0=>fun _=>rfl
 | n+1=>fun h=>by
  rw[abz,abz,h (n+1) (Nat.le_refl _),al3 l m n (fun k hk=>h k (by omega))]
theorem apm (l:List Int):agv fnd l≤l.length∧agv fnd l≤8:=by
 have:=arf (fnd:=fnd) l (min 8 l.length)
 unfold agv
 omega
theorem a0p {l:List Int}(h:agv fnd l≠0):fnd (l.take (agv fnd l))=true:=an1 l _ (Nat.pos_of_ne_zero h)
theorem axn {l:List Int}{x:Int}(m:Nat)(hm:m≤8)(hx:l.head? =some x)(hf: ∀q,fnd q=true→q.head? =some x→q.length≤m):agv fnd l=abz fnd l (min m l.length):=by
 unfold agv
 refine ajx l _ _ (by omega) fun n h1 h2=> ?_
 cases hb:fnd (l.take n) with
 | false=>rfl
 | true=>
  have e:(l.take n).head? =some x:=by
   cases l with
   | nil=>simp at hx
   | cons y t=>
    cases n with
    | zero=>omega
    | succ n=>simpa using hx
  have:=hf _ hb e
  rw[List.length_take] at this
  omega
theorem ayx: ∀(xs r:List Int) (top:Int),(acr cls fnd r top xs).1.length+(acr cls fnd r top xs).2.length=r.length+xs.length:=by
 intro xs
 induction xs with
 | nil=>intro r top;simp[acr]
 | cons x xs ih=>
  intro r top
  unfold acr
  split
  ·simp
  ·split
   ·have:=ih (r++[x]) top
    simp at this⊢
    omega
   ·have:=ih r (max top (cls x))
    simp
    omega
theorem ayw: ∀(xs r:List Int) (top:Int),∃a,(acr cls fnd r top xs).1=r++a:=by
 intro xs
 induction xs with
 | nil=>intro r top;exact⟨[],by simp[acr]⟩
 | cons x xs ih=>
  intro r top
  unfold acr
  split
  ·exact⟨[],by simp⟩
  ·split
   ·obtain⟨a,ha⟩:=ih (r++[x]) top
    exact⟨x::a,by rw[ha];simp⟩
   ·exact ih r _
theorem ak9 (l:List Int):(aei cls fnd l).1.length+(aei cls fnd l).2.length=l.length:=by
 have h:=apm (fnd:=fnd) l
 unfold aei
 split
 ·simp;omega
 ·rw[ayx]
  simp
  omega
theorem ak8 {l:List Int}(h:l≠ []):0<(aei cls fnd l).1.length:=by
 have hl:0<l.length:=List.length_pos_iff.2 h
 unfold aei
 split
 ·simp;omega
 ·rename_i hn
  obtain⟨a,ha⟩:=ayw (cls:=cls) (fnd:=fnd) (l.drop (agv fnd l)) (l.take (agv fnd l)) 0
  rw[ha]
  simp
  omega
theorem aga {l:List Int}(h:l≠ []):(aei cls fnd l).2.length<l.length:=by
 have h1:=ak9 (cls:=cls) (fnd:=fnd) l
 have h2:=ak8 (cls:=cls) (fnd:=fnd) h
 omega
theorem a11: ∀(n k:Nat) (l:List Int),l.length≤n→l.length≤k→a5m cls fnd n l=a5m cls fnd k l:=by
 intro n
 induction n with
 | zero=>
  intro k l h1 _
  obtain rfl:l=[]:=List.eq_nil_of_length_eq_zero (by omega)
  cases k<;>simp[a5m]
 | succ n ih=>
  intro k l h1 h2
  by_cases hl:l=[]
  ·subst hl;cases k<;>simp[a5m]
  ·cases k with
   | zero=>exact absurd (List.eq_nil_of_length_eq_zero (by omega)) hl
   | succ k=>
    have h3:=aga (cls:=cls) (fnd:=fnd) hl
    simp only[a5m,if_neg hl]
    rw[ih k _ (by omega) (by omega)]
theorem af0:abo cls fnd []=[]:=rfl
theorem ads {l:List Int}(h:l≠ []):abo cls fnd l=(aei cls fnd l).1::abo cls fnd (aei cls fnd l).2:=by
 have h3:=aga (cls:=cls) (fnd:=fnd) h
 unfold abo
 cases hl:l.length with
 | zero=>exact absurd (List.eq_nil_of_length_eq_zero hl) h
 | succ n=>
  rw[a5m,if_neg h,a11 n _ _ (by omega) (Nat.le_refl _)]
theorem aiq {P:List Int→Prop}(h0:P [])(h1: ∀l,l≠ []→P (aei cls fnd l).2→P l): ∀l,P l:=by
 intro l
 induction hn:l.length using Nat.strongRecOn generalizing l with
 | ind n ih=>
  by_cases hl:l=[]
  ·rw[hl];exact h0
  ·refine h1 l hl (ih _ ?_ _ rfl)
   have:=aga (cls:=cls) (fnd:=fnd) hl
   omega
theorem aeh (l:List Int):(abo cls fnd l).length≤l.length:=by
 refine aiq (cls:=cls) (fnd:=fnd) (P:=fun l=>(abo cls fnd l).length≤l.length) (by simp[af0]) (fun l hl ih=> ?_) l
 rw[ads hl]
 have:=aga (cls:=cls) (fnd:=fnd) hl
 simp
 omega
theorem ayv (l:List Int): ∀r∈abo cls fnd l,r≠ []:=by
 refine aiq (cls:=cls) (fnd:=fnd) (P:=fun l=> ∀r∈abo cls fnd l,r≠ []) (by simp[af0]) (fun l hl ih=> ?_) l
 rw[ads hl]
 intro r hr
 rcases List.mem_cons.1 hr with rfl | hr
 ·have:=ak8 (cls:=cls) (fnd:=fnd) hl
  intro e
  rw[e] at this
  simp at this
 ·exact ih r hr
theorem awh (l:List Int):((abo cls fnd l).map List.length).sum=l.length:=by
 refine aiq (cls:=cls) (fnd:=fnd) (P:=fun l=>((abo cls fnd l).map List.length).sum=l.length) (by simp[af0]) (fun l hl ih=> ?_) l
 rw[ads hl,List.map_cons,List.sum_cons,ih]
 exact ak9 l
theorem awn (Y:List Int)(hY: ∀y,Y.head? =some y→cls y=0): ∀(xs r:List Int) (top:Int),acr cls fnd r top (xs++Y)=((acr cls fnd r top xs).1,(acr cls fnd r top xs).2++Y):=by
 intro xs
 induction xs with
 | nil=>
  intro r top
  cases Y with
  | nil=>simp[acr]
  | cons y Y=>
   have:=hY y rfl
   simp[acr,this]
 | cons x xs ih=>
  intro r top
  rw[List.cons_append]
  unfold acr
  split
  ·rfl
  ·split
   ·exact ih _ _
   ·rw[ih];rfl
theorem awi (Y:List Int)(hY: ∀y,Y.head? =some y→cls y=0)(m:Nat)(hm: ∀q,fnd q=true→q.length≤m){l:List Int}(hl:l≠ [])(hlm:m≤l.length):aei cls fnd (l++Y)=((aei cls fnd l).1,(aei cls fnd l).2++Y):=by
 have hpos:0<l.length:=List.length_pos_iff.2 hl
 have e:agv fnd (l++Y)=agv fnd l:=by
  have cut: ∀(k:List Int) (b:Nat),m≤k.length→b≤k.length→abz fnd k b=abz fnd k (min m b):=fun k b h1 h2=>by
   refine ajx k _ _ (by omega) fun n g1 g2=> ?_
   cases hb:fnd (k.take n) with
   | false=>rfl
   | true=>
    have:=hm _ hb
    rw[List.length_take] at this
    omega
  unfold agv
  rw[cut l _ hlm (by omega),cut (l++Y) _ (by simp;omega) (by omega)]
  have e2:min m (min 8 (l++Y).length)=min m (min 8 l.length):=by simp;omega
  rw[e2]
  refine al3 _ _ _ fun k hk=> ?_
  rw[List.take_append_of_le_length (by omega)]
 have hle:=(apm (fnd:=fnd) l).1
 unfold aei
 rw[e]
 split
 ·rw[List.take_append_of_le_length (by omega),List.drop_append_of_le_length (by omega)]
 ·rw[List.take_append_of_le_length hle,List.drop_append_of_le_length hle,awn Y hY]
theorem a89 (Y:List Int)(hY: ∀y,Y.head? =some y→cls y=0)(m:Nat)(hm: ∀q,fnd q=true→q.length≤m)(l:List Int):
  ∀i,i+m<(abo cls fnd l).length→(abo cls fnd (l++Y))[i]? =(abo cls fnd l)[i]?:=by
 refine aiq (cls:=cls) (fnd:=fnd) (P:=fun l=> ∀i,i+m<(abo cls fnd l).length→(abo cls fnd (l++Y))[i]? =(abo cls fnd l)[i]?) (by simp[af0]) (fun l hl ih=> ?_) l
 intro i hi
 have h1:=aeh (cls:=cls) (fnd:=fnd) l
 have h2:=awi (cls:=cls) Y hY m hm hl (by omega)
 have hne:l++Y≠ []:=by simp[hl]
 rw[ads hl] at hi⊢
 rw[ads hne,h2]
 cases i with
 | zero=>rfl
 | succ i=>
  simp only[List.getElem?_cons_succ]
  exact ih i (by simp at hi;omega)
end
end Go.Vf
namespace Go.Vf
section
variable (cls:Int→Int)(fnd:List Int→Bool)(m:Nat)
def aa6:List Int→List Int→List Int×List Int×Bool
 | row,[]=>(row,[],false)
 | row,x::xs=>if row.length=m∨cls x=0 then (row,x::xs,true) else if fnd (row++[x])=true then aa6 (row++[x]) xs else (row,x::xs,false)
def aaz:List Int→List (List Int)→List Int×List (List Int)
 | row,[]=>(row,[])
 | row,p::ps=>if (aa6 cls fnd m row p).2.2=true then ((aa6 cls fnd m row p).1,(aa6 cls fnd m row p).2.1::ps) else ((aaz (aa6 cls fnd m row p).1 ps).1,(aa6 cls fnd m row p).2.1::(aaz (aa6 cls fnd m row p).1 ps).2)
def Rising:Int→List (List Int)→Prop
 | _,[]=>True
 | top,p::ps=>(p=[]∧Rising top ps)∨ ∃c,p≠ []∧(∀x∈p,cls x=c)∧(c=0∨top<c)∧Rising c ps
def acb:Nat→List (List Int)→List (List Int)
 | _,[]=>[]
 | n,p::ps=>p.drop (min n p.length)::acb (n-min n p.length) ps
variable {cls:Int→Int}{fnd:List Int→Bool}{m:Nat}
theorem Rising.mono: ∀ {ps:List (List Int)} {a b:Int},Rising cls a ps→b≤a→Rising cls b ps:=by
 intro ps
 induction ps with
 | nil=>intro a b _ _;trivial
 | cons p ps ih=>
  intro a b h hb
  rcases h with ⟨h1,h2⟩ | ⟨c,hp0,h1,h2,h3⟩
  ·exact .inl ⟨h1,ih h2 hb⟩
  ·exact .inr ⟨c,hp0,h1,by omega,h3⟩
theorem amb: ∀(ps:List (List Int)) (n:Nat),(acb n ps).flatten=ps.flatten.drop n:=by
 intro ps
 induction ps with
 | nil=>intro n;simp[acb]
 | cons p ps ih=>
  intro n
  rw[acb,List.flatten_cons,List.flatten_cons,ih,List.drop_append]
  congr 1
  ·by_cases h:n≤p.length
   ·rw[Nat.min_eq_left h]
   ·rw[Nat.min_eq_right (by omega),List.drop_eq_nil_of_le (Nat.le_refl _),List.drop_eq_nil_of_le (by omega)]
  ·congr 1
   omega
theorem ama: ∀(ps:List (List Int)),acb 0 ps=ps:=by
 intro ps
 induction ps with
 | nil=>rfl
 | cons p ps ih=>simp[acb,ih]
theorem ajb: ∀(ps:List (List Int)) (n:Nat),(acb n ps).length=ps.length:=by
 intro ps
 induction ps with
 | nil=>intro n;rfl
 | cons p ps ih=>intro n;simp[acb,ih]
theorem Rising.drop (_hc0: ∀x,0≤cls x): ∀(ps:List (List Int)) (n:Nat),Rising cls 0 ps→Rising cls 0 (acb n ps):=by
 intro ps
 induction ps with
 | nil=>intro n _;trivial
 | cons p ps ih=>
  intro n h
  rcases h with ⟨h1,h2⟩ | ⟨c,hp0,h1,h2,h3⟩
  ·subst h1
   exact .inl ⟨by simp,by simpa using ih n h2⟩
  ·by_cases hn:n<p.length
   ·have e:n-min n p.length=0:=by omega
    rw[acb,e,ama]
    exact .inr ⟨c,by rw[Nat.min_eq_left (by omega)];intro e;have:=congrArg List.length e;simp at this;omega,fun x hx=>h1 x (List.mem_of_mem_drop hx),h2,h3⟩
   ·have e:min n p.length=p.length:=by omega
    rw[acb,e]
    exact .inl ⟨by simp,ih _ (h3.mono (by omega))⟩
def a8n (fnd:List Int→Bool)(x:Int)(m:Nat):Prop:= ∀q,fnd q=true→q.head? =some x→q.length≤m
theorem awo {x:Int}(hm:a8n fnd x m): ∀(xs r:List Int) (top:Int),r.head? =some x→m≤r.length→acr cls fnd r top xs=(r,xs):=by
 intro xs
 induction xs with
 | nil=>intro r top _ _;rfl
 | cons y xs ih=>
  intro r top hr hl
  unfold acr
  split
  ·rfl
  ·rw[if_neg,ih r _ hr hl]
   intro h
   have:=hm _ h.1 (by rw[List.head?_append,hr];rfl)
   simp at this
   omega
theorem asq: ∀(p xs r:List Int) (top:Int),(∀y∈p,cls y≠0∧cls y≤top)→acr cls fnd r top (p++xs)=((acr cls fnd r top xs).1,p++(acr cls fnd r top xs).2):=by
 intro p
 induction p with
 | nil=>intro xs r top _;rfl
 | cons y p ih=>
  intro xs r top h
  have hy:=h y (by simp)
  have e:max top (cls y)=top:=by omega
  rw[List.cons_append]
  conv=>lhs;unfold acr
  rw[if_neg hy.1,if_neg (by omega),e,ih xs r top (fun z hz=>h z (by simp[hz]))]
  try rfl
theorem axi: ∀(p row:List Int),row.length≤m→(aa6 cls fnd m row p).1.length≤m∧ ∃a,(aa6 cls fnd m row p).1=row++a∧p=a++(aa6 cls fnd m row p).2.1:=by
 intro p
 induction p with
 | nil=>intro row h;exact⟨h,[],by simp[aa6],by simp[aa6]⟩
 | cons x xs ih=>
  intro row h
  unfold aa6
  split
  ·exact⟨h,[],by simp,by simp⟩
  ·rename_i hc
   split
   ·obtain⟨h1,a,h2,h3⟩:=ih (row++[x]) (by simp;omega)
    exact⟨h1,x::a,by rw[h2];simp,by rw[List.cons_append,←h3]⟩
   ·exact⟨h,[],by simp,by simp⟩
theorem a0f {x:Int}(hm:a8n fnd x m){c:Int}(hc:c≠0): ∀(p row:List Int) (top:Int) (rest:List Int),(∀y∈p,cls y=c)→top<c→row.head? =some x→row.length≤m→
  acr cls fnd row top (p++rest)=(if (aa6 cls fnd m row p).2.2=true then ((aa6 cls fnd m row p).1,(aa6 cls fnd m row p).2.1++rest) else if (aa6 cls fnd m row p).2.1=[] then acr cls fnd (aa6 cls fnd m row p).1 top rest else ((acr cls fnd (aa6 cls fnd m row p).1 c rest).1,(aa6 cls fnd m row p).2.1++(acr cls fnd (aa6 cls fnd m row p).1 c rest).2)):=by
 intro p
 induction p with
 | nil=>intro row top rest _ _ _ _;simp[aa6]
 | cons y p ih=>
  intro row top rest hp ht hr hl
  have hy:cls y=c:=hp y (by simp)
  unfold aa6
  by_cases h1:row.length=m∨cls y=0
  ·rw[if_pos h1]
   simp only[if_true]
   rw[awo hm _ _ _ hr (by omega)]
  ·rw[if_neg h1]
   by_cases h2:fnd (row++[y])=true
   ·rw[if_pos h2,List.cons_append]
    conv=>lhs;unfold acr
    rw[if_neg (by omega),if_pos ⟨h2,by omega⟩]
    exact ih (row++[y]) top rest (fun z hz=>hp z (by simp[hz])) ht (by rw[List.head?_append,hr];rfl) (by simp;omega)
   ·rw[if_neg h2,List.cons_append]
    conv=>lhs;unfold acr
    have e:max top (cls y)=c:=by omega
    rw[if_neg (by omega),if_neg (fun h=>h2 h.1),e,asq p rest row c (fun z hz=>by have:=hp z (by simp[hz]);omega)]
    simp
theorem a0c {x:Int}(hm:a8n fnd x m)(_hc0: ∀x,0≤cls x): ∀(ps:List (List Int)) (row:List Int) (top:Int),Rising cls top ps→0≤top→row.head? =some x→row.length≤m→
  acr cls fnd row top ps.flatten=((aaz cls fnd m row ps).1,(aaz cls fnd m row ps).2.flatten)∧Rising cls top (aaz cls fnd m row ps).2∧(aaz cls fnd m row ps).2.length=ps.length:=by
 intro ps
 induction ps with
 | nil=>intro row top _ _ _ _;exact⟨by simp[aaz,acr],trivial,rfl⟩
 | cons p ps ih=>
  intro row top h h0 hr hl
  rw[List.flatten_cons]
  rcases h with ⟨h1,h2⟩ | ⟨c,hp0,h1,h2,h3⟩
  ·subst h1
   obtain⟨i1,i2,i3⟩:=ih row top h2 h0 hr hl
   simp only[aaz,aa6,Bool.false_eq_true,if_false,List.nil_append,List.flatten_cons,List.length_cons]
   exact⟨i1,.inl ⟨rfl,i2⟩,by rw[i3]⟩
  ·by_cases hc:c=0
   ·subst hc
    cases p with
    | nil=>exact absurd rfl hp0
    | cons y p=>
     have hy:cls y=0:=h1 y (by simp)
     have e:aa6 cls fnd m row (y::p)=(row,y::p,true):=by unfold aa6;rw[if_pos (.inr hy)]
     simp only[aaz,e,if_true,List.flatten_cons,List.length_cons]
     refine⟨?_,.inr ⟨0,hp0,h1,.inl rfl,h3⟩,trivial⟩
     rw[List.cons_append]
     unfold acr
     rw[if_pos hy]
   ·have ht:top<c:=by omega
    have hgo:=a0f hm hc p row top ps.flatten h1 ht hr hl
    obtain⟨k1,a,k2,k3⟩:=axi (cls:=cls) (fnd:=fnd) p row hl
    have hr':(aa6 cls fnd m row p).1.head? =some x:=by rw[k2,List.head?_append,hr];rfl
    have hp': ∀y∈(aa6 cls fnd m row p).2.1,cls y=c:=fun y hy=>h1 y (by rw[k3];exact List.mem_append_right _ hy)
    rw[hgo]
    simp only[aaz]
    generalize aa6 cls fnd m row p=J at k1 hr' hp'⊢
    obtain⟨r',p',st⟩:=J
    simp only at k1 hr' hp'⊢
    cases st with
    | true=>
     simp only[if_true,List.flatten_cons,List.length_cons]
     refine⟨trivial,?_,trivial⟩
     by_cases e:p'=[]
     ·exact .inl ⟨e,h3.mono (by omega)⟩
     ·exact .inr ⟨c,e,hp',.inr ht,h3⟩
    | false=>
     simp only[Bool.false_eq_true,if_false,List.flatten_cons,List.length_cons]
     by_cases e:p'=[]
     ·subst e
      obtain⟨i1,i2,i3⟩:=ih r' top (h3.mono (by omega)) h0 hr' k1
      simp only[if_true,List.nil_append]
      exact⟨i1,.inl ⟨rfl,i2⟩,by rw[i3]⟩
     ·obtain⟨i1,i2,i3⟩:=ih r' c h3 (by omega) hr' k1
      simp only[if_neg e]
      rw[i1]
      exact⟨rfl,.inr ⟨c,e,hp',.inr ht,i2⟩,by rw[i3]⟩
def byC (cls:Int→Int):Nat→List Int→List (List Int)
 | 0,_=>[]
 | _+1,[]=>[]
 | n+1,x::xs=>(x::xs.takeWhile (fun y=>cls y==cls x))::byC cls n (xs.dropWhile (fun y=>cls y==cls x))
theorem agr {p:Int→Bool}: ∀l:List Int,(l.dropWhile p).length≤l.length:=by
 intro l
 induction l with
 | nil=>simp
 | cons x t ih=>
  rw[List.dropWhile_cons]
  split
  ·simp;omega
  ·simp
theorem a4x: ∀(n:Nat) (l:List Int),l.length≤n→(byC cls n l).flatten=l:=by
 intro n
 induction n with
 | zero=>intro l h;obtain rfl:l=[]:=List.eq_nil_of_length_eq_zero (by omega);rfl
 | succ n ih=>
  intro l h
  cases l with
  | nil=>rfl
  | cons x xs=>
   have h1:=agr (p:=fun y=>cls y==cls x) xs
   simp only[List.length_cons] at h
   rw[byC,List.flatten_cons,ih _ (by omega),List.cons_append,List.takeWhile_append_dropWhile]
theorem CO.dropW {p:Int→Bool}: ∀ {l:List Int},CO cls l→CO cls (l.dropWhile p):=by
 intro l
 induction l with
 | nil=>intro h;exact h
 | cons x t ih=>
  intro h
  rw[List.dropWhile_cons]
  split
  ·exact ih h.tail
  ·exact h
theorem CO.next: ∀ {xs:List Int} {x:Int},CO cls (x::xs)→ ∀y,(xs.dropWhile (fun y=>cls y==cls x)).head? =some y→cls y=0∨cls x<cls y:=by
 intro xs
 induction xs with
 | nil=>intro x _ y hy;simp at hy
 | cons z t ih=>
  intro x h y hy
  rw[List.dropWhile_cons] at hy
  by_cases e:cls z=cls x
  ·rw[if_pos (by simp[e])] at hy
   have h2:=ih h.2 y (by rw[e];exact hy)
   rw[e] at h2
   exact h2
  ·rw[if_neg (by simp[e])] at hy
   obtain rfl:z=y:=by simpa using hy
   have:=h.1
   by_cases h0:cls z=0
   ·exact .inl h0
   ·have:=this h0;omega
theorem ax3 (_hc0: ∀x,0≤cls x): ∀(n:Nat) (l:List Int) (top:Int),CO cls l→(∀y,l.head? =some y→cls y=0∨top<cls y)→Rising cls top (byC cls n l):=by
 intro n
 induction n with
 | zero=>intro l top _ _;trivial
 | succ n ih=>
  intro l top h ht
  cases l with
  | nil=>trivial
  | cons x xs=>
   refine .inr ⟨cls x,by simp,fun y hy=> ?_,ht x rfl,ih _ _ h.tail.dropW h.next⟩
   rcases List.mem_cons.1 hy with rfl | hy
   ·rfl
   ·simpa using List.all_eq_true.1 (List.all_takeWhile (p:=fun y=>cls y==cls x) (l:=xs)) y hy
end
end Go.Vf
