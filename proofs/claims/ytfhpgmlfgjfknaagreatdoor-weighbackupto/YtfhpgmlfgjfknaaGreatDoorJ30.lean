/- Contracts and lemmas (nothing is claimed here). -/
import Derived.Test.YtfhpgmlfgjfknaaGreatDoorJ29
import Derived.RangeFuncBound
import Derived.RangeFuncCalls
import Derived.RangeFuncLeaves
import Derived.Shelf.Abstract
import Derived.Shelf.RegionOpen
import Derived.OwnWalkIn
import Derived.TacticsInMore
import Derived.LoopNIn
import Derived.LoopIn
namespace Go.Proofs.YtfhpgmlfgjfknaaGreatDoor
open Go.RowKit Go.Vf
theorem ai5 (s:ByteArray)(k:Nat)(h:k<s.size):s.data.toList[k]? =some s[k]:=by
 have:k<s.data.toList.length:=by rw[←Lib.size_eq];exact h
 rw[List.getElem?_eq_getElem this];rfl
theorem amw (l:List UInt8)(n k:Nat)(h:k<n)(hl:k<l.length):(l.take n).drop k=l[k]::(l.take n).drop (k+1):=by
 have h2:k<(l.take n).length:=by simp;omega
 rw[List.drop_eq_getElem_cons h2];simp
theorem a0m (s:ByteArray)(h:1<s.size)(W:World):(Instr.index 9 (.string s) (.int .i64 1)).run Tryz.prog W=.ok (.int .u8 (s[1].toNat:Int)) W:=by
 simp[go_sem,Instr.index,h]
set_option maxHeartbeats 2000000 in
set_option maxRecDepth 20000 in
theorem ap0 (s:ByteArray)(k:Nat)(hk:k<9)(w:World)(hs:s.size≤4294967296):
  Calls Tryz.prog 71 #[.string s,a7b k] w fun e w'=>e=.returned (.bool (abh k s.data.toList))∧Below w.heap.size w w':=by
 obtain⟨R,HR⟩: ∃R,Hid (R=abh k s.data.toList):=⟨_,rfl⟩
 rw[←HR.out]
 have hlen:s.data.toList.length=s.size:=(Lib.size_eq s).symm
 have hx:=Box7.new w 103 (.int .u8 ((aaf k).first:Int)) (.int .u8 ((aaf k).last:Int)) (.int .u8 ((aaf k).low:Int)) (.int .u8 ((aaf k).high:Int)) (.int .i64 ((aaf k).size:Int)) (.int .i64 ((aaf k).least:Int)) (.int .i64 ((aaf k).most:Int))
 have hb0:=(Below.refl w.heap.size w).alloc (Nat.le_refl _) (.cells #[.int .u8 ((aaf k).first:Int),.int .u8 ((aaf k).last:Int),.int .u8 ((aaf k).low:Int),.int .u8 ((aaf k).high:Int),.int .i64 ((aaf k).size:Int),.int .i64 ((aaf k).least:Int),.int .i64 ((aaf k).most:Int)] 103)
 obtain⟨z,hz⟩: ∃z,z=(aaf k).size:=⟨_,rfl⟩
 have hz1:1≤z∧z≤4:=by rw[hz];rcases acf hk with rfl | rfl | rfl | rfl | rfl | rfl | rfl | rfl | rfl<;>simp[aaf]
 rw[←hz] at hx hb0
 unfold a7b
 rw[←hz]
 have HZ:Hid (z=(aaf k).size):=hz
 clear hz
 go_enter Tryz.func71,Tryz.ntmps71
 by_cases h1:s.size<z
 ·go_wp2
  have hR:R=false:=by rw[HR.out];unfold abh;rw[←HZ.out,hlen];simp;omega
  go_ret
  exact⟨by rw[hR];rfl,hb0⟩
 ·go_wp2
  generalize w.alloc (.cells #[.int .u8 ((aaf k).first:Int),.int .u8 ((aaf k).last:Int),.int .u8 ((aaf k).low:Int),.int .u8 ((aaf k).high:Int),.int .i64 (z:Int),.int .i64 ((aaf k).least:Int),.int .i64 ((aaf k).most:Int)] 103)=W at hx hb0⊢
  obtain⟨c0,c1,c2,c3,c4,c5,c6,f0,f1,f2,f3,f4,f5,f6,hl⟩:=hx
  by_cases h2:z≤1
  ·have t1:decide ((1:Int)<(z:Int))=false:=by simp;omega
   have hR:R=true:=by
    rw[HR.out];unfold abh;rw[←HZ.out,hlen]
    have:(List.drop 2 (List.take z s.data.toList))=[]:=List.drop_eq_nil_of_le (by simp;omega)
    rw[this];simp;omega
   go_region
   go_wp2
   go_loopw [5] (fun i wr=>i=.int .i64 2∧wr=W.drew) (fun _ _=>0)
   case atStart=>exact⟨rfl,rfl⟩
   case round=>
    obtain⟨rfl,rfl⟩:=hrel
    go_wp2
    go_ret
    exact⟨by first | (rw[hR];rfl) | rfl,hb0.drew⟩
  ·have h3:1<s.size:=by omega
   have hi1:=a0m s h3
   have t1:decide ((1:Int)<(z:Int))=true:=by simp;omega
   have hg1:(s.data.toList[1]?.getD 0)=s[1]:=by rw[ai5 s 1 h3];rfl
   by_cases h4:s[1].toNat<(aaf k).low
   ·have t2:decide ((s[1].toNat:Int)<((aaf k).low:Int))=true:=by simp;omega
    have hR:R=false:=by
     rw[HR.out];unfold abh alb;rw[←HZ.out,hlen,hg1]
     have e1:decide (z≤1)=false:=by simp;omega
     have e2:decide ((aaf k).low≤s[1].toNat)=false:=by simp;omega
     rw[e1,e2];simp
    go_region
    go_wp2
    go_ret
    exact⟨by first | (rw[hR];rfl) | rfl,hb0.drew⟩
   ·have t2:decide ((s[1].toNat:Int)<((aaf k).low:Int))=false:=by simp;omega
    by_cases h5:(aaf k).high<s[1].toNat
    ·have t3:decide (((aaf k).high:Int)<(s[1].toNat:Int))=true:=by simp;omega
     have hR:R=false:=by
      rw[HR.out];unfold abh alb;rw[←HZ.out,hlen,hg1]
      have e1:decide (z≤1)=false:=by simp;omega
      have e2:decide (s[1].toNat≤(aaf k).high)=false:=by simp;omega
      rw[e1,e2];simp
     go_region
     go_wp2
     go_ret
     exact⟨by first | (rw[hR];rfl) | rfl,hb0.drew⟩
    ·have t3:decide (((aaf k).high:Int)<(s[1].toNat:Int))=false:=by simp;omega
     have HR2:Hid (((s.data.toList.take z).drop 2).all afz=R):=by
      show _=_
      rw[HR.out];unfold abh alb;rw[←HZ.out,hlen,hg1]
      have e1:decide (z≤s.size)=true:=by simp;omega
      have e2:decide (s[1].toNat≤(aaf k).high)=true:=by simp;omega
      have e3:decide ((aaf k).low≤s[1].toNat)=true:=by simp;omega
      rw[e1,e2,e3];simp
     go_region
     go_wp2
     go_loopw [5] (fun i wr=> ∃j:Nat,2≤j∧j≤4∧i=.int .i64 j∧Hid (((s.data.toList.take z).drop j).all afz=R)∧wr=W.drew) (fun i _=>4-(intOf i).toNat)
     case atStart=>exact⟨2,by omega,by omega,rfl,HR2,rfl⟩
     case round=>
      obtain⟨j,hj1,hj2,rfl,HJ,rfl⟩:=hrel
      by_cases hlt:j<z
      ·have hjs:j<s.size:=by omega
       have hJ:=HJ.out
       rw[amw _ z j hlt (by omega),List.all_cons] at hJ
       have hsj:s.data.toList[j]'(by omega)=s[j]:=rfl
       rw[hsj] at hJ
       by_cases h6:s[j].toNat<128
       ·have hR:R=false:=by rw[←hJ];unfold afz;simp;omega
        clear hJ HJ HR2
        go_wp2
        go_ret
        exact⟨by first | (rw[hR];rfl) | rfl,hb0.drew⟩
       ·by_cases h7:191<s[j].toNat
        ·have hR:R=false:=by rw[←hJ];unfold afz;simp;omega
         clear hJ HJ HR2
         go_wp2
         go_ret
         exact⟨by first | (rw[hR];rfl) | rfl,hb0.drew⟩
        ·have HK:Hid (((s.data.toList.take z).drop (j+1)).all afz=R):=by
          show _=_
          rw[←hJ]
          have e1:afz s[j]=true:=by unfold afz;simp;omega
          rw[e1];simp
         clear hJ HJ HR2
         go_wp2
         go_roundw
         case rel=>exact⟨j+1,by omega,by omega,by go_num,HK,trivial⟩
         case measure=>simp[intOf];omega
      ·have hR:R=true:=by
        rw[←HJ.out,List.drop_eq_nil_of_le (by simp;omega)];rfl
       clear HJ HR2
       go_wp2
       go_ret
       exact⟨by first | (rw[hR];rfl) | rfl,hb0.drew⟩
end Go.Proofs.YtfhpgmlfgjfknaaGreatDoor
namespace Go.Vf
theorem a1a {p:Nat}(hp:ajh p):acq (enc p).length≤((enc p)[0]?.getD 0).toNat∧ ∀i,1≤i→i<(enc p).length→128≤((enc p)[i]?.getD 0).toNat∧((enc p)[i]?.getD 0).toNat≤191:=by
 unfold ajh at hp
 by_cases h1:p<0x80
 ·have e:enc p=[UInt8.ofNat p]:=by unfold enc;rw[if_pos (by omega)]
  rw[e]
  exact⟨Nat.zero_le _,fun i h1 h2=>by simp at h2;omega⟩
 ·by_cases h2:p<0x800
  ·have e:enc p=[UInt8.ofNat (0xc0+p/64),UInt8.ofNat (0x80+p % 64)]:=by unfold enc;rw[if_neg (by omega),if_pos (by omega)]
   have e1:(UInt8.ofNat (0xc0+p/64)).toNat=0xc0+p/64:=aas (by omega)
   have e2:(UInt8.ofNat (0x80+p % 64)).toNat=0x80+p % 64:=aas (by omega)
   rw[e]
   refine⟨?_,fun i h1 h2=> ?_⟩
   ·show 0xc0≤(UInt8.ofNat (0xc0+p/64)).toNat
    omega
   ·simp only[List.length_cons,List.length_nil] at h2
    obtain rfl:i=1:=by omega
    show 128≤(UInt8.ofNat (0x80+p % 64)).toNat∧(UInt8.ofNat (0x80+p % 64)).toNat≤191
    omega
  ·by_cases h3:p<0x10000
   ·have e:enc p=[UInt8.ofNat (0xe0+p/4096),UInt8.ofNat (0x80+p/64 % 64),UInt8.ofNat (0x80+p % 64)]:=by unfold enc;rw[if_neg (by omega),if_neg (by omega),if_pos (by omega)]
    have e1:(UInt8.ofNat (0xe0+p/4096)).toNat=0xe0+p/4096:=aas (by omega)
    have e2:(UInt8.ofNat (0x80+p/64 % 64)).toNat=0x80+p/64 % 64:=aas (by omega)
    have e3:(UInt8.ofNat (0x80+p % 64)).toNat=0x80+p % 64:=aas (by omega)
    rw[e]
    refine⟨?_,fun i h1 h2=> ?_⟩
    ·show 0xe0≤(UInt8.ofNat (0xe0+p/4096)).toNat
     omega
    ·simp only[List.length_cons,List.length_nil] at h2
     rcases(show i=1∨i=2 by omega) with rfl | rfl
     ·show 128≤(UInt8.ofNat (0x80+p/64 % 64)).toNat∧(UInt8.ofNat (0x80+p/64 % 64)).toNat≤191
      omega
     ·show 128≤(UInt8.ofNat (0x80+p % 64)).toNat∧(UInt8.ofNat (0x80+p % 64)).toNat≤191
      omega
   ·have e:enc p=[UInt8.ofNat (0xf0+p/262144),UInt8.ofNat (0x80+p/4096 % 64),UInt8.ofNat (0x80+p/64 % 64),UInt8.ofNat (0x80+p % 64)]:=by unfold enc;rw[if_neg (by omega),if_neg (by omega),if_neg (by omega)]
    have e1:(UInt8.ofNat (0xf0+p/262144)).toNat=0xf0+p/262144:=aas (by omega)
    have e2:(UInt8.ofNat (0x80+p/4096 % 64)).toNat=0x80+p/4096 % 64:=aas (by omega)
    have e3:(UInt8.ofNat (0x80+p/64 % 64)).toNat=0x80+p/64 % 64:=aas (by omega)
    have e4:(UInt8.ofNat (0x80+p % 64)).toNat=0x80+p % 64:=aas (by omega)
    rw[e]
    refine⟨?_,fun i h1 h2=> ?_⟩
    ·show 0xf0≤(UInt8.ofNat (0xf0+p/262144)).toNat
     omega
    ·simp only[List.length_cons,List.length_nil] at h2
     rcases(show i=1∨i=2∨i=3 by omega) with rfl | rfl | rfl
     ·show 128≤(UInt8.ofNat (0x80+p/4096 % 64)).toNat∧(UInt8.ofNat (0x80+p/4096 % 64)).toNat≤191
      omega
     ·show 128≤(UInt8.ofNat (0x80+p/64 % 64)).toNat∧(UInt8.ofNat (0x80+p/64 % 64)).toNat≤191
      omega
     ·show 128≤(UInt8.ofNat (0x80+p % 64)).toNat∧(UInt8.ofNat (0x80+p % 64)).toNat≤191
      omega
end Go.Vf
namespace Go.Proofs.YtfhpgmlfgjfknaaGreatDoor
open Go.RowKit Go.Vf
theorem axl (s:ByteArray)(h:0<s.size)(W:World):(Instr.index 9 (.string s) (.int .i64 0)).run Tryz.prog W=.ok (.int .u8 (s[0].toNat:Int)) W:=by
 simp[go_sem,Instr.index,h]
set_option maxHeartbeats 2000000 in
set_option maxRecDepth 20000 in
theorem as7 (s:ByteArray)(p:Nat)(hp:ajh p)(hs:s.data.toList=enc p)(w:World)(ht:Tabs w):
  Calls Tryz.prog 72 #[.string s] w fun e w'=>e=.returned (.int .i64 (p:Int))∧Below w.heap.size w w':=by
 have hlen:s.size=(enc p).length:=by rw[Lib.size_eq,hs]
 have h4:=avw p
 have h0:=ahc p
 obtain⟨hb0,hbt⟩:=a1a hp
 obtain⟨_,_,_,_,_,_,hacc⟩:=aud hp []
 obtain⟨z,hz⟩: ∃z,z=s.size:=⟨_,rfl⟩
 have hget: ∀i (h:i<s.size),((enc p)[i]?.getD 0)=s[i]:=fun i h=>by rw[←hs,ai5 s i h];rfl
 have hp0:0<s.size:=by omega
 rw[hget 0 hp0,←hlen] at hb0
 have HA:Hid (agx (enc p) s.size=p):=by show _=_;rw[hlen];exact hacc
 have hA1:agx (enc p) 1=s[0].toNat-acq s.size:=by show _-acq (enc p).length=_;rw[hget 0 hp0,←hlen]
 have HAs: ∀i (h:i+1<s.size),Hid (agx (enc p) (i+2)=agx (enc p) (i+1)*64+(s[i+1].toNat-128)∧128≤s[i+1].toNat∧s[i+1].toNat≤191):=fun i h=>by
  show _∧_
  have:=hbt (i+1) (by omega) (by omega)
  rw[hget (i+1) h] at this
  exact⟨by show _*64+(((enc p)[i+1]?.getD 0).toNat-128)=_;rw[hget (i+1) h],this⟩
 have hi0:=axl s hp0
 have hh:=ht.heads s.size (by omega)
 have hu8:s[0].toNat<256:=s[0].toNat_lt
 have hw1:IntKind.u8.wrap ((s[0].toNat:Int)-(acq s.size:Int))=((agx (enc p) 1:Nat):Int):=by
  rw[hA1,IntWalk.u8_in _ ⟨by omega,by omega⟩];omega
 have hb1:agx (enc p) 1≤255:=by rw[hA1];omega
 have hsz:s.size≤4:=by omega
 clear hz hA1 hbt hget hacc h4 h0 hlen hs hb0 hu8
 go_enter Tryz.func72,Tryz.ntmps72
 go_wp2
 go_region
 go_wp2
 go_loopw [3,4] (fun n i wr=> ∃j:Nat,1≤j∧j≤s.size∧i=.int .i64 j∧n=.int .i64 ((agx (enc p) j:Nat):Int)∧(agx (enc p) j≤67375167∧(j≤3→agx (enc p) j≤1052735)∧(j≤2→agx (enc p) j≤16447)∧(j≤1→agx (enc p) j≤255))∧wr=w.drew) (fun _ i _=>s.size-(intOf i).toNat)
 case atStart=>exact⟨1,by omega,by omega,rfl,rfl,⟨by omega,fun _=>by omega,fun _=>by omega,fun _=>by omega⟩,rfl⟩
 case round=>
  obtain⟨j,hj1,hj2,rfl,rfl,⟨b4,b3,b2,b1⟩,rfl⟩:=hrel
  by_cases hlt:j<s.size
  ·obtain⟨i,rfl⟩: ∃i,j=i+1:=⟨j-1,by omega⟩
   obtain⟨e1,e2,e3⟩:=(HAs i hlt).out
   have hw2:IntKind.u8.wrap ((s[i+1].toNat:Int)-128)=((s[i+1].toNat-128:Nat):Int):=by rw[IntWalk.u8_in _ ⟨by omega,by omega⟩];omega
   go_wp2
   refine⟨⟨i+2,by omega,by omega,by go_num,by rw[e1];go_num,⟨by omega,fun _=>by omega,fun _=>by omega,fun _=>by omega⟩,trivial⟩,?_⟩
   simp[intOf];omega
  ·obtain rfl:j=s.size:=by omega
   go_wp2
   go_ret
   exact⟨by rw[show Ending.returned (Value.int .i64 (p:Int))=.returned (.int .i64 ((agx (enc p) s.size:Nat):Int)) by rw[HA.out]];rfl,(Below.refl _ _).drew⟩
end Go.Proofs.YtfhpgmlfgjfknaaGreatDoor
namespace Go.Vf
def pl:Nat→List Nat→List (Nat×Int)
 | _,[]=>[]
 | at_,p::ps=>(at_,(p:Int))::pl (at_+(enc p).length) ps
theorem aqq (at_:Nat)(a b:List Nat):pl at_ (a++b)=pl at_ a++pl (at_+(adf a).length) b:=by
 induction a generalizing at_ with
 | nil=>simp[pl,adf]
 | cons p ps ih=>simp[pl,adf,ih,Nat.add_assoc]
theorem azd (at_:Nat)(ps:List Nat):(pl at_ ps).length=ps.length:=by
 induction ps generalizing at_ with
 | nil=>rfl
 | cons p ps ih=>simp[pl,ih]
theorem a5c (at_:Nat)(ps:List Nat):(pl at_ ps).map (·.2)=ps.map (fun p:Nat=>(p:Int)):=by
 induction ps generalizing at_ with
 | nil=>rfl
 | cons p ps ih=>simp[pl,ih]
theorem a5d {at_:Nat}{ps:List Nat}{x:Nat×Int}(h:x∈pl at_ ps):0≤x.2:=by
 have:x.2∈(pl at_ ps).map (·.2):=List.mem_map_of_mem h
 rw[a5c] at this
 obtain⟨p,_,hp⟩:=List.mem_map.1 this
 omega
def full (ps:List Nat)(rest:List UInt8):List (Nat×Int):=pl 0 ps++(if rest=[] then [] else [((adf ps).length,-1)])
theorem at7 (ps:List Nat)(rest:List UInt8):(full ps rest).length≤(adf ps++rest).length:=by
 have:=abw ps
 unfold full
 rw[List.length_append,azd,List.length_append]
 cases rest with
 | nil=>simp;omega
 | cons c t=>simp;omega
theorem avs (ps:List Nat):full ps []=pl 0 ps:=by simp[full]
theorem aly (ps:List Nat){rest:List UInt8}(h:rest≠ []):full ps rest=pl 0 ps++[((adf ps).length,-1)]:=by simp[full,h]
theorem at6 (ps1 ps2:List Nat)(rest:List UInt8):pl 0 ps1 <+: full (ps1++ps2) rest:=by
 unfold full;rw[aqq,List.append_assoc];exact List.prefix_append _ _
theorem a4a {ps:List Nat}{rest:List UInt8}{ini:List (Nat×Int)}{x:Nat×Int}(h:ini++[x] <+: full ps rest)(hx:x.2= -1):rest≠ []∧x.1=(adf ps).length∧ini=pl 0 ps:=by
 unfold full at h
 by_cases hr:rest=[]
 ·rw[if_pos hr,List.append_nil] at h
  have:x∈pl 0 ps:=h.subset (by simp)
  have:=a5d this
  omega
 ·rw[if_neg hr] at h
  obtain⟨t,ht⟩:=h
  rcases List.eq_nil_or_concat t with rfl | ⟨t',y,rfl⟩
  ·rw[List.append_nil] at ht
   obtain⟨h1,h2⟩:=List.append_inj' ht rfl
   simp only[List.cons.injEq,and_true] at h2
   exact⟨hr,by rw[h2],h1⟩
  ·rw[List.concat_eq_append,←List.append_assoc] at ht
   obtain⟨h1,h2⟩:=List.append_inj' ht rfl
   have:x∈pl 0 ps:=by rw[←h1];simp
   have:=a5d this
   omega
end Go.Vf
namespace Go.Proofs.YtfhpgmlfgjfknaaGreatDoor
open Go.RowKit Go.Vf Go.Shelf
def Kpt (n₀:Nat)(A B:World):Prop:=Below n₀ A B∧ ∀k t cs,t=103∨t=9→Blk A k t cs→Blk B k t cs
theorem Kpt.trans {n₀:Nat}{A B C:World}(h:Kpt n₀ A B)(k:Kpt n₀ B C):Kpt n₀ A C:=⟨h.1.trans k.1,fun i t cs ht hi=>k.2 i t cs ht (h.2 i t cs ht hi)⟩
theorem Kpt.putObj {n₀:Nat}{w:World}(hn:n₀≤w.heap.size)(W:World)(l:Nat)(o o':Obj)(hl:w.heap.size≤l)(ho:W.heap[l]? =some o)(hc:o.isCells=false)(_:o.isWalk=false):Kpt n₀ W (W.putObj l o'):=by
 refine⟨?_,fun k t cs _ hk=> ?_⟩
 ·exact(Below.refl n₀ W).grown (grownBy_putObj' W l o') (by have:=(Array.getElem?_eq_some_iff.1 ho).1;omega) (fun k e=>by cases e;omega)
 ·have hne:k≠l:=by
   rintro rfl
   rw[show W.heap[k]? =_ from hk] at ho
   cases ho
   cases hc
  exact(World.putObj_heap_other hne).trans hk
theorem ag7 {A B:World}(h:Below A.heap.size A B):A.grownBy B none:=⟨h.os,h.tape,h.output,h.size,fun k hk _=>h.block k hk⟩
theorem avm {w w':World}{Bs b:Nat}{s:Value}{a0 a1 a2 a3 a4 a5 a6:Value}(hb:Below w.heap.size w w')
  (h:w.cell? ⟨Bs,0,none⟩=some s∧w.cell? ⟨b,0,none⟩=some a0∧w.cell? ⟨b,1,none⟩=some a1∧w.cell? ⟨b,2,none⟩=some a2∧w.cell? ⟨b,3,none⟩=some a3∧w.cell? ⟨b,4,none⟩=some a4∧w.cell? ⟨b,5,none⟩=some a5∧w.cell? ⟨b,6,none⟩=some a6∧Bs<w.heap.size∧b<w.heap.size):
  w'.cell? ⟨Bs,0,none⟩=some s∧w'.cell? ⟨b,0,none⟩=some a0∧w'.cell? ⟨b,1,none⟩=some a1∧w'.cell? ⟨b,2,none⟩=some a2∧w'.cell? ⟨b,3,none⟩=some a3∧w'.cell? ⟨b,4,none⟩=some a4∧w'.cell? ⟨b,5,none⟩=some a5∧w'.cell? ⟨b,6,none⟩=some a6∧Bs<w'.heap.size∧b<w'.heap.size:=by
 obtain⟨h0,h1,h2,h3,h4,h5,h6,h7,l1,l2⟩:=h
 exact⟨(hb.cell (p:=⟨Bs,0,none⟩) l1).trans h0,(hb.cell (p:=⟨b,0,none⟩) l2).trans h1,(hb.cell (p:=⟨b,1,none⟩) l2).trans h2,(hb.cell (p:=⟨b,2,none⟩) l2).trans h3,(hb.cell (p:=⟨b,3,none⟩) l2).trans h4,(hb.cell (p:=⟨b,4,none⟩) l2).trans h5,(hb.cell (p:=⟨b,5,none⟩) l2).trans h6,(hb.cell (p:=⟨b,6,none⟩) l2).trans h7,Nat.lt_of_lt_of_le l1 hb.size,Nat.lt_of_lt_of_le l2 hb.size⟩
attribute [local go_sem] Oper.semAt_some
set_option maxHeartbeats 1000000 in
theorem a4v (n:Nat)(s:ByteArray)(w:World):
  CallsIn Fence.wide n Tryz.prog 37 #[.string s] w fun e w'=>e=.returned (.func (.func 69) #[] #[.pointer (some ⟨w.heap.size,0,none⟩)])∧w'=w.alloc (.cells #[.string s] 9):=by
 refine callsIn_of_wp Tryz.func37 rfl trivial ?_ rfl
 simp only[Tryz.ntmps37,List.size_toArray,List.length_cons,List.length_nil,Nat.reduceAdd,Nat.reduceSub,Array.replicate_succ,Array.replicate_zero,List.push_toArray,List.append_toArray,List.nil_append,List.cons_append]
 gi_wp2
 go_ret
 exact⟨rfl,rfl⟩
set_option maxRecDepth 100000 in
set_option maxHeartbeats 1000000 in
theorem a1p (n:Nat)(hn:1≤n)(l Bs n₀:Nat)(hn₀:2≤n₀)(s:ByteArray)(hsz:s.size≤4294967296)(ps:List Nat)(rest:List UInt8)(hs:s.data.toList=adf ps++rest)(hps: ∀p∈ps,ajh p)(hrest:rest=[]∨ai2 rest)
  (J Jx:List (Nat×Int)→World→Prop) (W:World) (hJ:AbidesFrom W.heap.size J)
  (hY: ∀pre x W1,J pre W1→pre.length<(full ps rest).length→YieldAt Fence.wide (n-1) Tryz.prog l #[.int .i64 (x.1:Int),.int .i64 x.2] W1 fun e W'=>
   (e=.returned (.bool true)∧J (pre++[x]) W'∧Kpt n₀ W1 W')∨(e=.returned (.bool false)∧Jx (pre++[x]) W'))
  (hBs:Blk W Bs 9 #[.string s]) (ht:Tabs W) (h0:J [] W) (hnW:n₀≤W.heap.size):
  CallsIn Fence.wide n Tryz.prog 69 #[.func (.yield l) #[] #[],.pointer (some ⟨Bs,0,none⟩)] W fun e W'=>(∃v,e=.returned v)∧
   ((∃ys,ys=full ps rest∧J ys W')∨(∃pre,pre <+: full ps rest∧Jx pre W')):=by
 have HS:Hid (s.data.toList=adf ps++rest):=hs
 clear hs
 refine callsIn_of_wp Tryz.func69 rfl trivial ?_ rfl
 simp only[Tryz.ntmps69,List.size_toArray,List.length_cons,List.length_nil,Nat.reduceAdd,Nat.reduceSub,Array.replicate_succ,Array.replicate_zero,List.push_toArray,List.append_toArray,List.nil_append,List.cons_append]
 gi_wp2
 gi_loopw [3] (fun i wr=> ∃(ps1 ps2:List Nat),ps=ps1++ps2∧i=.int .i64 ((adf ps1).length:Nat)∧J (pl 0 ps1) wr∧Blk wr Bs 9 #[.string s]∧Below n₀ W wr)
  (fun i _=>s.size-(intOf i).toNat)
 case atStart=>exact⟨[],ps,rfl,rfl,h0,hBs,Below.refl _ _⟩
 case round=>
  obtain⟨ps1,ps2,HP,rfl,hJs,hB1,hbel⟩:=hrel
  have hc0:wr.cell? ⟨Bs,0,none⟩=some (.string s):=hB1.cell 0
  have htr:Tabs wr:=ht.below hn₀ hbel
  obtain⟨at_,hat⟩: ∃at_,at_=(adf ps1).length:=⟨_,rfl⟩
  rw[←hat]
  have hle:at_≤s.size:=by rw[hat,Lib.size_eq,HS.out,HP,abx];simp
  by_cases hlt:at_<s.size
  ·have Hat:Hid (at_=(adf ps1).length):=hat
   have HP':Hid (ps=ps1++ps2):=HP
   clear hat HP
   cases ps2 with
   | nil=>
    have hps1:ps=ps1:=by rw[HP'.out,List.append_nil]
    have hdrop:s.data.toList.drop at_=rest:=by
     rw[HS.out,hps1,Hat.out,List.drop_left]
    have hne:rest≠ []:=by
     intro h
     have:=congrArg List.length hdrop
     rw[h,List.length_drop,←Lib.size_eq] at this
     simp at this
     omega
    obtain⟨_,hno⟩:=hrest.resolve_left hne
    have hh:s[at_]=rest[0]?.getD 0:=by
     have h1:(s.data.toList.drop at_)[0]? =some s[at_]:=by rw[List.getElem?_drop];exact ai5 s at_ hlt
     rw[hdrop] at h1
     rw[h1];rfl
    rw[←hh] at hno
    have hsl:(s.extract at_ s.size).data.toList=rest:=by
     rw[Lib.extract_data,List.take_of_length_le (by rw[List.length_drop,←Lib.size_eq];exact Nat.le_refl _)];exact hdrop
    rw[←hsl] at hno
    have HNO:Hid (∀k,adt s[at_].toNat=some k→abh k (s.extract at_ s.size).data.toList=false):=hno
    have hpre:pl 0 ps1++[(at_,(-1:Int))]=full ps rest:=by rw[aly _ hne,hps1,Hat.out]
    have HPRE:Hid (pl 0 ps1++[(at_,(-1:Int))]=full ps rest):=hpre
    have hlen:(pl 0 ps1).length<(full ps rest).length:=by rw[←hpre];simp
    clear hh hno hsl hdrop hpre hps1 hne
    have hfin: ∀w5:World,Below wr.heap.size wr w5→ ∃fn tmps assign body,(Instr.yield l #[.int .i64 (at_:Int),.int .i64 (-1)]).run Tryz.prog w5=.ok (.round l fn tmps assign body) w5∧RoundIn Fence.wide (n-1) Tryz.prog l fn tmps assign body w5 fun e W'=>(e=.returned (.bool true)∧J (full ps rest) W')∨(e=.returned (.bool false)∧Jx (full ps rest) W'):=fun w5 hg5=>by
     have hJ5:J (pl 0 ps1) w5:=hJ _ wr w5 none hJs (ag7 hg5) (by simp)
     obtain⟨fn,tmps,assign,body,hy,hR⟩:=hY (pl 0 ps1) (at_,(-1:Int)) w5 hJ5 hlen
     rw[HPRE.out] at hR
     exact⟨fn,tmps,assign,body,hy,hR.mono fun e W' h=>h.imp (fun h=>⟨h.1,h.2.1⟩) id⟩
    gi_wp2
    refine⟨trivial,(callsIn_wide.2 (aiu s[at_] wr htr)).mono ?_⟩
    rintro e w2 ⟨⟨R,rfl,hR,hR0⟩,hb2⟩
    have hc2:w2.cell? ⟨Bs,0,none⟩=some (.string s):=(hb2.cell (p:=⟨Bs,0,none⟩) hB1.lt).trans hc0
    cases hrow:adt s[at_].toNat with
    | none=>
     obtain rfl:=hR0 hrow
     unfold azo
     clear hR hR0 hrow
     gi_wp2
     have hbel3:=(Below.refl w2.heap.size w2).alloc (Nat.le_refl _) (.cells #[.int .u8 0,.int .u8 0,.int .u8 0,.int .u8 0,.int .i64 0,.int .i64 0,.int .i64 0] 103)
     generalize w2.alloc (.cells #[.int .u8 0,.int .u8 0,.int .u8 0,.int .u8 0,.int .i64 0,.int .i64 0,.int .i64 0] 103)=W3 at hbel3⊢
     have hg3:Below wr.heap.size wr W3:=hb2.trans (hbel3.mono hb2.size)
     obtain⟨b,hb⟩: ∃b,b=w2.heap.size:=⟨_,rfl⟩
     rw[←hb]
     clear hb hc2
     refine wpIn_wide.2 ?_
     go_region
     go_wp2
     obtain⟨fn,tmps,assign,body,hy,hR⟩:=hfin _ hg3.drew
     gi_wp2
     refine hR.mono ?_
     rintro e W6 (⟨rfl,hJ6⟩ | ⟨rfl,hJx6⟩)
     ·gi_wp2
      refine bodyPost_ret (results_none rfl _ _ _) rfl ?_
      exact⟨⟨_,rfl⟩,.inl ⟨_,rfl,hJ6⟩⟩
     ·gi_wp2
      refine bodyPost_ret (results_none rfl _ _ _) rfl ?_
      exact⟨⟨_,rfl⟩,.inr ⟨_,List.prefix_rfl,hJx6⟩⟩
    | some k=>
     obtain rfl:=hR k hrow
     have hk:=(ald hrow).1
     have HWH:Hid (abh k (s.extract at_ s.size).data.toList=false):=HNO.out k hrow
     unfold a7b
     clear hR hR0 hrow
     gi_wp2
     have hb3:=Blk.new w2 103 #[.int .u8 ((aaf k).first:Int),.int .u8 ((aaf k).last:Int),.int .u8 ((aaf k).low:Int),.int .u8 ((aaf k).high:Int),.int .i64 ((aaf k).size:Int),.int .i64 ((aaf k).least:Int),.int .i64 ((aaf k).most:Int)]
     have hbel3:=(Below.refl w2.heap.size w2).alloc (Nat.le_refl _) (.cells #[.int .u8 ((aaf k).first:Int),.int .u8 ((aaf k).last:Int),.int .u8 ((aaf k).low:Int),.int .u8 ((aaf k).high:Int),.int .i64 ((aaf k).size:Int),.int .i64 ((aaf k).least:Int),.int .i64 ((aaf k).most:Int)] 103)
     generalize w2.alloc (.cells #[.int .u8 ((aaf k).first:Int),.int .u8 ((aaf k).last:Int),.int .u8 ((aaf k).low:Int),.int .u8 ((aaf k).high:Int),.int .i64 ((aaf k).size:Int),.int .i64 ((aaf k).least:Int),.int .i64 ((aaf k).most:Int)] 103)=W3 at hb3 hbel3⊢
     have hbB3:Blk W3 Bs 9 #[.string s]:=(hB1.below hb2 hB1.lt).below hbel3 (Nat.lt_of_lt_of_le hB1.lt hb2.size)
     have hg3:Below wr.heap.size wr W3:=hb2.trans (hbel3.mono hb2.size)
     have d0:=hbB3.cell 0
     have r0:=hb3.cell 0
     have r1:=hb3.cell 1
     have r2:=hb3.cell 2
     have r3:=hb3.cell 3
     have r4:=hb3.cell 4
     have r5:=hb3.cell 5
     have r6:=hb3.cell 6
     have l1:=hbB3.lt
     have l2:=hb3.lt
     simp only[List.getElem?_toArray,List.getElem?_cons_zero,List.getElem?_cons_succ] at d0 r0 r1 r2 r3 r4 r5 r6
     obtain⟨b,hb⟩: ∃b,b=w2.heap.size:=⟨_,rfl⟩
     rw[←hb] at r0 r1 r2 r3 r4 r5 r6 l2 hb3⊢
     clear hb hc2
     refine wpIn_wide.2 ?_
     go_region_held (fun w'=>w'.cell? ⟨Bs,0,none⟩=some (.string s)∧w'.cell? ⟨b,0,none⟩=some (.int .u8 ((aaf k).first:Int))∧w'.cell? ⟨b,1,none⟩=some (.int .u8 ((aaf k).last:Int))∧w'.cell? ⟨b,2,none⟩=some (.int .u8 ((aaf k).low:Int))∧w'.cell? ⟨b,3,none⟩=some (.int .u8 ((aaf k).high:Int))∧w'.cell? ⟨b,4,none⟩=some (.int .i64 ((aaf k).size:Int))∧w'.cell? ⟨b,5,none⟩=some (.int .i64 ((aaf k).least:Int))∧w'.cell? ⟨b,6,none⟩=some (.int .i64 ((aaf k).most:Int))∧Bs<w'.heap.size∧b<w'.heap.size) (first | go_keep | exact avm (by assumption) (by assumption)) (first | (go_at_call 71;refine(ap0 (s.extract at_ s.size) k hk _ (by simp;omega)).mono ?_;rw[HWH.out];rintro e w4 ⟨rfl,hb4⟩))
     go_wp2
     have hg4:Below wr.heap.size wr w4:=hg3.drew.trans (hb4.mono hg3.size)
     clear d0 r0 r1 r2 r3 r4 r5 r6
     obtain⟨fn,tmps,assign,body,hy,hR⟩:=hfin _ hg4
     gi_wp2
     refine hR.mono ?_
     rintro e W6 (⟨rfl,hJ6⟩ | ⟨rfl,hJx6⟩)
     ·gi_wp2
      refine bodyPost_ret (results_none rfl _ _ _) rfl ?_
      exact⟨⟨_,rfl⟩,.inl ⟨_,rfl,hJ6⟩⟩
     ·gi_wp2
      refine bodyPost_ret (results_none rfl _ _ _) rfl ?_
      exact⟨⟨_,rfl⟩,.inr ⟨_,List.prefix_rfl,hJx6⟩⟩
   | cons p ps2=>
    have hp:ajh p:=hps p (by rw[HP'.out];simp)
    have hdrop:s.data.toList.drop at_=enc p++(adf ps2++rest):=by
     rw[HS.out,HP'.out,Hat.out,abx,List.append_assoc,List.drop_left];simp[adf]
    obtain⟨k,hk,hk1,_,hk2,hk3,_⟩:=aud hp (adf ps2++rest)
    have hh:s[at_]=(enc p)[0]?.getD 0:=by
     have h1:(s.data.toList.drop at_)[0]? =some s[at_]:=by rw[List.getElem?_drop];exact ai5 s at_ hlt
     rw[hdrop,List.getElem?_append_left (ahc p)] at h1
     rw[h1];rfl
    have hrow:adt s[at_].toNat=some k:=by rw[hh];exact hk1
    have hsl:(s.extract at_ s.size).data.toList=enc p++(adf ps2++rest):=by
     rw[Lib.extract_data,List.take_of_length_le (by rw[List.length_drop,←Lib.size_eq];exact Nat.le_refl _)];exact hdrop
    have hwh:abh k (s.extract at_ s.size).data.toList=true:=by rw[hsl];exact hk3
    have HK2:Hid ((aaf k).size=(enc p).length):=hk2
    have HSL:Hid ((s.extract at_ s.size).data.toList=enc p++(adf ps2++rest)):=hsl
    have HROW:Hid (adt s[at_].toNat=some k):=hrow
    have HWH:Hid (abh k (s.extract at_ s.size).data.toList=true):=hwh
    clear hh hrow hsl hwh hdrop hk1 hk2 hk3
    gi_wp2
    refine⟨trivial,(callsIn_wide.2 (aiu s[at_] wr htr)).mono ?_⟩
    rintro e w2 ⟨⟨R,rfl,hR,hR0⟩,hb2⟩
    obtain rfl:=hR k HROW.out
    rw[HROW.out]
    unfold a7b
    have hc2:w2.cell? ⟨Bs,0,none⟩=some (.string s):=(hb2.cell (p:=⟨Bs,0,none⟩) hB1.lt).trans hc0
    gi_wp2
    have hb3:=Blk.new w2 103 #[.int .u8 ((aaf k).first:Int),.int .u8 ((aaf k).last:Int),.int .u8 ((aaf k).low:Int),.int .u8 ((aaf k).high:Int),.int .i64 ((aaf k).size:Int),.int .i64 ((aaf k).least:Int),.int .i64 ((aaf k).most:Int)]
    have hbel3:=(Below.refl w2.heap.size w2).alloc (Nat.le_refl _) (.cells #[.int .u8 ((aaf k).first:Int),.int .u8 ((aaf k).last:Int),.int .u8 ((aaf k).low:Int),.int .u8 ((aaf k).high:Int),.int .i64 ((aaf k).size:Int),.int .i64 ((aaf k).least:Int),.int .i64 ((aaf k).most:Int)] 103)
    generalize w2.alloc (.cells #[.int .u8 ((aaf k).first:Int),.int .u8 ((aaf k).last:Int),.int .u8 ((aaf k).low:Int),.int .u8 ((aaf k).high:Int),.int .i64 ((aaf k).size:Int),.int .i64 ((aaf k).least:Int),.int .i64 ((aaf k).most:Int)] 103)=W3 at hb3 hbel3⊢
    have hbB3:Blk W3 Bs 9 #[.string s]:=(hB1.below hb2 hB1.lt).below hbel3 (Nat.lt_of_lt_of_le hB1.lt hb2.size)
    have hg3:Below wr.heap.size wr W3:=hb2.trans (hbel3.mono hb2.size)
    have d0:=hbB3.cell 0
    have r0:=hb3.cell 0
    have r1:=hb3.cell 1
    have r2:=hb3.cell 2
    have r3:=hb3.cell 3
    have r4:=hb3.cell 4
    have r5:=hb3.cell 5
    have r6:=hb3.cell 6
    have l1:=hbB3.lt
    have l2:=hb3.lt
    simp only[List.getElem?_toArray,List.getElem?_cons_zero,List.getElem?_cons_succ] at d0 r0 r1 r2 r3 r4 r5 r6
    obtain⟨b,hb⟩: ∃b,b=w2.heap.size:=⟨_,rfl⟩
    rw[←hb] at r0 r1 r2 r3 r4 r5 r6 l2 hb3⊢
    have HSZ:Hid (b=w2.heap.size):=hb
    clear hb hc2 hR hR0
    refine wpIn_wide.2 ?_
    go_region_held (fun w'=>w'.cell? ⟨Bs,0,none⟩=some (.string s)∧w'.cell? ⟨b,0,none⟩=some (.int .u8 ((aaf k).first:Int))∧w'.cell? ⟨b,1,none⟩=some (.int .u8 ((aaf k).last:Int))∧w'.cell? ⟨b,2,none⟩=some (.int .u8 ((aaf k).low:Int))∧w'.cell? ⟨b,3,none⟩=some (.int .u8 ((aaf k).high:Int))∧w'.cell? ⟨b,4,none⟩=some (.int .i64 ((aaf k).size:Int))∧w'.cell? ⟨b,5,none⟩=some (.int .i64 ((aaf k).least:Int))∧w'.cell? ⟨b,6,none⟩=some (.int .i64 ((aaf k).most:Int))∧Bs<w'.heap.size∧b<w'.heap.size) (first | go_keep | exact avm (by assumption) (by assumption)) (first | (go_at_call 71;refine(ap0 (s.extract at_ s.size) k hk _ (by simp;omega)).mono ?_;rw[HWH.out];rintro e w4 ⟨rfl,hb4⟩))
    go_wp2
    have hB4:Blk w4 Bs 9 #[.string s]:=Blk.below (W:=W3.drew) hbB3 hb4 l1
    have hr4:Blk w4 b 103 #[.int .u8 ((aaf k).first:Int),.int .u8 ((aaf k).last:Int),.int .u8 ((aaf k).low:Int),.int .u8 ((aaf k).high:Int),.int .i64 ((aaf k).size:Int),.int .i64 ((aaf k).least:Int),.int .i64 ((aaf k).most:Int)]:=Blk.below (W:=W3.drew) hb3 hb4 l2
    have hg4:Below wr.heap.size wr w4:=hg3.drew.trans (hb4.mono hg3.size)
    have ht4:Tabs w4:=htr.own hg4
    have c4:=hB4.cell 0
    have r44:=hr4.cell 4
    simp only[List.getElem?_toArray,List.getElem?_cons_zero,List.getElem?_cons_succ] at c4 r44
    have hz1:at_+(aaf k).size≤s.size:=by
     have h1:=congrArg List.length HSL.out
     rw[←Lib.size_eq,List.length_append,←HK2.out] at h1
     simp at h1
     omega
    have hzk:1≤(aaf k).size∧(aaf k).size≤4:=by rw[HK2.out];exact⟨ahc p,avw p⟩
    clear d0 r0 r1 r2 r3 r4 r5 r6
    have hch:(s.extract at_ (at_+(aaf k).size)).data.toList=enc p:=by
     have h1:(s.extract at_ (at_+(aaf k).size)).data.toList=(s.extract at_ s.size).data.toList.take (aaf k).size:=by
      rw[Lib.extract_data,Lib.extract_data,List.take_take]
      congr 1
      omega
     rw[h1,HSL.out,HK2.out,List.take_left]
    have HCH:Hid ((s.extract at_ (at_+(aaf k).size)).data.toList=enc p):=hch
    clear hch
    gi_wp2
    refine⟨trivial,(callsIn_wide.2 (as7 (s.extract at_ (at_+(aaf k).size)) p hp HCH.out w4 ht4)).mono ?_⟩
    rintro e w5 ⟨rfl,hb5⟩
    have hB5:Blk w5 Bs 9 #[.string s]:=hB4.below hb5 hB4.lt
    have hr5:=hr4.below hb5 hr4.lt
    have hg5:Below wr.heap.size wr w5:=hg4.trans (hb5.mono hg4.size)
    have hJ5:J (pl 0 ps1) w5:=hJ _ wr w5 none hJs (ag7 hg5) (by simp)
    have hpre:pl 0 ps1++[(at_,(p:Int))]=pl 0 (ps1++[p]):=by rw[aqq,Hat.out];simp[pl]
    have hfull:pl 0 (ps1++[p]) <+: full ps rest:=by rw[HP'.out,show ps1++p::ps2=(ps1++[p])++ps2 by simp];exact at6 _ _ _
    obtain⟨fn,tmps,assign,body,hy,hR⟩:=hY (pl 0 ps1) (at_,(p:Int)) w5 hJ5 (by have:=hfull.length_le;rw[←hpre] at this;simp at this;omega)
    dsimp only at hy
    clear c4 r44
    gi_wp2
    refine hR.mono ?_
    rintro e W6 (⟨rfl,hJ6,hk6⟩ | ⟨rfl,hJx6⟩)
    ·have hB6:=hk6.2 _ _ _ (.inr rfl) hB5
     have hr6:=hk6.2 _ _ _ (.inl rfl) hr5
     have r64:=hr6.cell 4
     simp only[List.getElem?_toArray,List.getElem?_cons_zero,List.getElem?_cons_succ] at r64
     rw[hpre] at hJ6
     have hb6:Below n₀ W W6:=(hbel.trans (hg5.mono (Nat.le_trans hnW hbel.size))).trans hk6.1
     have HL:Hid ((adf (ps1++[p])).length=at_+(aaf k).size):=by show _=_;rw[abx,List.length_append,Hat.out,HK2.out];simp[adf]
     gi_wp2
     go_roundw
     case rel=>exact⟨ps1++[p],ps2,by rw[HP'.out];simp,by rw[HL.out];go_num,hJ6,hB6,hb6⟩
     case measure=>simp[intOf];omega
    ·gi_wp2
     refine bodyPost_ret (results_none rfl _ _ _) rfl ?_
     exact⟨⟨_,rfl⟩,.inr ⟨_,hpre▸hfull,hJx6⟩⟩
  ·have hend:ps2=[]∧rest=[]:=by
    have h1:(adf ps2++rest).length=0:=by
     have:=Lib.size_eq s
     rw[HS.out,HP,abx,List.append_assoc,List.length_append,←hat] at this
     omega
    have h2:=abw ps2
    rw[List.length_append] at h1
    exact⟨List.eq_nil_of_length_eq_zero (by omega),List.eq_nil_of_length_eq_zero (by omega)⟩
   obtain⟨h1,h2⟩:=hend
   have Hat:Hid (at_=(adf ps1).length):=hat
   have HP':Hid (ps=ps1++ps2):=HP
   clear hat HP
   gi_wp2
   go_end0
   refine⟨⟨_,rfl⟩,.inl ⟨_,rfl,?_⟩⟩
   rw[h2,avs,HP'.out,h1,List.append_nil]
   exact hJs
attribute [local go_sem] Oper.semAt_some
theorem aul (n:Nat)(hn:1≤n)(Bs n₀:Nat)(hn₀:2≤n₀)(s:ByteArray)(hsz:s.size≤4294967296)(ps:List Nat)(rest:List UInt8)(hs:s.data.toList=adf ps++rest)(hps: ∀p∈ps,ajh p)(hrest:rest=[]∨ai2 rest)
  (w:World) (hnw:n₀≤w.heap.size) (hBs:Blk w Bs 9 #[.string s]) (ht:Tabs w):
  SeqStopsK Fence.wide n Tryz.prog 69 #[.pointer (some ⟨Bs,0,none⟩)] (fun x:Nat×Int=> #[Value.int .i64 (x.1:Int),Value.int .i64 x.2]) (Kpt n₀) (fun ys=>ys=full ps rest) (fun pre=>pre <+: full ps rest) (full ps rest).length w:=fun l J Jx W hW hJ _ hY h0=>
 a1p n hn l Bs n₀ hn₀ s hsz ps rest hs hps hrest J Jx W hJ hY (hBs.below hW hBs.lt) (ht.own hW) h0 (Nat.le_trans hnw hW.size)
def amy (ps:List Nat)(rest:List UInt8):Int:=if rest=[] then -1 else ((adf ps).length:Int)
end Go.Proofs.YtfhpgmlfgjfknaaGreatDoor
