/- Contracts and lemmas (nothing is claimed here). -/
import Derived.Test.YtpfkoldfbecdlaaGreatDoorJ1
import Derived.Test.YtpfkoldfbecdlaaGreatDoorChecked
import Derived.Deep.RegionHeld
import Derived.Test.YtpfkoldfbecdlaaGreatDoorJ2
import Derived.RangeFuncNested
import Derived.RangeFuncBound
import Derived.RangeFuncCalls
import Derived.RangeFuncLeaves
import Derived.Shelf.Abstract
import Derived.Shelf.RegionOpen
import Derived.WalkKit
import Derived.OwnWalkIn
import Derived.TacticsInMore
import Derived.LoopNIn
import Derived.LoopIn
namespace Go.Vf
structure URow where
  first:Nat
  last:Nat
  low:Nat
  high:Nat
  size:Nat
  least:Nat
  most:Nat
def aag:Nat→URow
  | 0=>⟨0x00,0x7f,0x00,0x00,1,0x0000,0x007f⟩
  | 1=>⟨0xc2,0xdf,0x80,0xbf,2,0x0080,0x07ff⟩
  | 2=>⟨0xe0,0xe0,0xa0,0xbf,3,0x0800,0x0fff⟩
  | 3=>⟨0xe1,0xec,0x80,0xbf,3,0x1000,0xcfff⟩
  | 4=>⟨0xed,0xed,0x80,0x9f,3,0xd000,0xd7ff⟩
  | 5=>⟨0xee,0xef,0x80,0xbf,3,0xe000,0xffff⟩
  | 6=>⟨0xf0,0xf0,0x90,0xbf,4,0x10000,0x3ffff⟩
  | 7=>⟨0xf1,0xf3,0x80,0xbf,4,0x40000,0xfffff⟩
  | _=>⟨0xf4,0xf4,0x80,0x8f,4,0x100000,0x10ffff⟩
def adm (c:Nat):Option Nat:=
  if c≤0x7f then some 0 else if c<0xc2 then none else if c≤0xdf then some 1 else if c=0xe0 then some 2 else if c≤0xec then some 3 else if c=0xed then some 4
  else if c≤0xef then some 5 else if c=0xf0 then some 6 else if c≤0xf3 then some 7 else if c=0xf4 then some 8 else none
def rowPU (n:Int):Option Nat:=
  if n<0 then none else if n≤0x7f then some 0 else if n≤0x7ff then some 1 else if n≤0xfff then some 2 else if n≤0xcfff then some 3 else if n≤0xd7ff then some 4
  else if n<0xe000 then none else if n≤0xffff then some 5 else if n≤0x3ffff then some 6 else if n≤0xfffff then some 7 else if n≤0x10ffff then some 8 else none
theorem utab_nine (Q:Nat→Prop)(h: ∀k,k<9→Q k):Q 0∧Q 1∧Q 2∧Q 3∧Q 4∧Q 5∧Q 6∧Q 7∧Q 8:=
  ⟨h 0 (by decide),h 1 (by decide),h 2 (by decide),h 3 (by decide),h 4 (by decide),h 5 (by decide),h 6 (by decide),h 7 (by decide),h 8 (by decide)⟩
theorem acd {k:Nat}(h:k<9):k=0∨k=1∨k=2∨k=3∨k=4∨k=5∨k=6∨k=7∨k=8:=by omega
theorem agt {c k:Nat}(hk:k<9)(h1:(aag k).first≤c)(h2:c≤(aag k).last):adm c=some k:=by
  rcases acd hk with rfl | rfl | rfl | rfl | rfl | rfl | rfl | rfl | rfl<;>simp only[aag] at h1 h2<;>unfold adm<;>
    repeat (first | rw[if_pos (by omega)] | rw[if_neg (by omega)])
theorem rowB_miss {c:Nat}(h: ∀k,k<9→ ¬((aag k).first≤c∧c≤(aag k).last)):adm c=none:=by
  obtain⟨h0,h1,h2,h3,h4,h5,h6,h7,h8⟩:=utab_nine _ h
  simp only[aag] at h0 h1 h2 h3 h4 h5 h6 h7 h8
  unfold adm
  rw[if_neg (by omega)]
  by_cases a:c<0xc2
  · rw[if_pos a]
  · rw[if_neg a]
    repeat rw[if_neg (by omega)]
theorem rowP_hit {n:Int}{k:Nat}(hk:k<9)(h1:((aag k).least:Int)≤n)(h2:n≤((aag k).most:Int)):rowPU n=some k:=by
  rcases acd hk with rfl | rfl | rfl | rfl | rfl | rfl | rfl | rfl | rfl<;>simp only[aag] at h1 h2<;>unfold rowPU<;>
    repeat (first | rw[if_pos (by omega)] | rw[if_neg (by omega)])
theorem rowB_lt {c k:Nat}(h:adm c=some k):k<9∧(aag k).first≤c∧c≤(aag k).last:=by
  unfold adm at h
  repeat' split at h
  all_goals (cases h<;>(simp only[aag];omega))
def ag9 (p:Nat):Prop:=p<0xd800∨0xe000≤p∧p<0x110000
def enc (p:Nat):List UInt8:=
  if p<0x80 then [UInt8.ofNat p] else if p<0x800 then [UInt8.ofNat (0xc0+p/64),UInt8.ofNat (0x80+p % 64)]
  else if p<0x10000 then [UInt8.ofNat (0xe0+p/4096),UInt8.ofNat (0x80+p/64 % 64),UInt8.ofNat (0x80+p % 64)]
  else [UInt8.ofNat (0xf0+p/262144),UInt8.ofNat (0x80+p/4096 % 64),UInt8.ofNat (0x80+p/64 % 64),UInt8.ofNat (0x80+p % 64)]
def ac5:List Nat→List UInt8
  | []=>[]
  | p::ps=>enc p++ac5 ps
theorem abu (a b:List Nat):ac5 (a++b)=ac5 a++ac5 b:=by
  induction a with
  | nil=>rfl
  | cons p ps ih=>simp[ac5,ih]
theorem agp (p:Nat):0<(enc p).length:=by unfold enc;split;simp;split;simp;split<;>simp
theorem enc_le (p:Nat):(enc p).length≤4:=by unfold enc;split;simp;split;simp;split<;>simp
theorem abk (ps:List Nat):ps.length≤(ac5 ps).length:=by
  induction ps with
  | nil=>simp
  | cons p ps ih=>have:=agp p;simp[ac5];omega
def ae8 (b:UInt8):Bool:=decide (128≤b.toNat)&&decide (b.toNat≤191)
def secB (k:Nat)(l:List UInt8):Bool:=decide ((aag k).low≤(l[1]?.getD 0).toNat)&&decide ((l[1]?.getD 0).toNat≤(aag k).high)
def abg (k:Nat)(l:List UInt8):Bool:=decide ((aag k).size≤l.length)&&((decide ((aag k).size≤1)||secB k l)&&((l.take (aag k).size).drop 2).all ae8)
def ag7 (l:List UInt8):Prop:=l≠ []∧ ∀k,adm (l[0]?.getD 0).toNat=some k→abg k l=false
def adc (n:Nat):Nat:=if n=2 then 0xc0 else if n=3 then 0xe0 else if n=4 then 0xf0 else 0
def aga (l:List UInt8):Nat→Nat
  | 0=>0
  | 1=>(l[0]?.getD 0).toNat-adc l.length
  | i+2=>aga l (i+1)*64+((l[i+1]?.getD 0).toNat-128)
theorem aar {n:Nat}(h:n<256):(UInt8.ofNat n).toNat=n:=by simp[UInt8.toNat_ofNat'];omega
theorem enc_row {p:Nat}(hp:ag9 p)(t:List UInt8): ∃k,k<9∧adm ((enc p)[0]?.getD 0).toNat=some k∧rowPU p=some k∧(aag k).size=(enc p).length∧abg k (enc p++t)=true∧aga (enc p) (enc p).length=p:=by
  have hb:(0≤p∧p≤0x7f)∨(0x80≤p∧p≤0x7ff)∨(0x800≤p∧p≤0xfff)∨(0x1000≤p∧p≤0xcfff)∨(0xd000≤p∧p≤0xd7ff)∨(0xe000≤p∧p≤0xffff)∨(0x10000≤p∧p≤0x3ffff)∨(0x40000≤p∧p≤0xfffff)∨(0x100000≤p∧p≤0x10ffff):=by
    unfold ag9 at hp;omega
  rcases hb with h | h | h | h | h | h | h | h | h
  · have e:enc p=[UInt8.ofNat p]:=by unfold enc;rw[if_pos (by omega)]
    rw[e]
    refine⟨0,by decide,?_,rowP_hit (k:=0) (by decide) (by simp only[aag];omega) (by simp only[aag];omega),rfl,?_,?_⟩
    · simp only[List.getElem?_cons_zero,Option.getD_some];rw[aar (by omega)];exact agt (k:=0) (by decide) (by simp only[aag];omega) (by simp only[aag];omega)
    · simp[abg,aag]
    · show(UInt8.ofNat p).toNat-adc 1=p
      rw[aar (by omega)]
      exact Nat.sub_zero _
  · have e:enc p=[UInt8.ofNat (0xc0+p/64),UInt8.ofNat (0x80+p % 64)]:=by unfold enc;rw[if_neg (by omega),if_pos (by omega)]
    have e1:(UInt8.ofNat (0xc0+p/64)).toNat=0xc0+p/64:=aar (by omega)
    have e2:(UInt8.ofNat (0x80+p % 64)).toNat=0x80+p % 64:=aar (by omega)
    rw[e]
    refine⟨1,by decide,?_,rowP_hit (k:=1) (by decide) (by simp only[aag];omega) (by simp only[aag];omega),rfl,?_,?_⟩
    · simp only[List.getElem?_cons_zero,Option.getD_some];rw[e1];exact agt (k:=1) (by decide) (by simp only[aag];omega) (by simp only[aag];omega)
    · simp only[abg,secB,aag,List.cons_append,List.nil_append,List.length_cons,List.take_succ_cons,List.take_zero,List.drop_succ_cons,List.drop_nil,List.all_nil,List.getElem?_cons_succ,List.getElem?_cons_zero,Option.getD_some,e2];simp;omega
    · show((UInt8.ofNat (0xc0+p/64)).toNat-adc 2)*64+((UInt8.ofNat (0x80+p % 64)).toNat-128)=p
      rw[e1,e2,show adc 2=0xc0 from rfl];omega
  all_goals first
    | (have e:enc p=[UInt8.ofNat (0xe0+p/4096),UInt8.ofNat (0x80+p/64 % 64),UInt8.ofNat (0x80+p % 64)]:=by unfold enc;rw[if_neg (by omega),if_neg (by omega),if_pos (by omega)]
       have e1:(UInt8.ofNat (0xe0+p/4096)).toNat=0xe0+p/4096:=aar (by omega)
       have e2:(UInt8.ofNat (0x80+p/64 % 64)).toNat=0x80+p/64 % 64:=aar (by omega)
       have e3:(UInt8.ofNat (0x80+p % 64)).toNat=0x80+p % 64:=aar (by omega)
       rw[e]
       obtain⟨k,hk,hk1,hk2,hk3,hk4,hk5,hk6,hk7⟩: ∃k,k<9∧(aag k).first≤0xe0+p/4096∧0xe0+p/4096≤(aag k).last∧(aag k).least≤p∧p≤(aag k).most∧(aag k).size=3∧(aag k).low≤0x80+p/64 % 64∧0x80+p/64 % 64≤(aag k).high:=by
         first
           | exact⟨2,by decide,by simp only[aag];omega,by simp only[aag];omega,by simp only[aag];omega,by simp only[aag];omega,rfl,by simp only[aag];omega,by simp only[aag];omega⟩
           | exact⟨3,by decide,by simp only[aag];omega,by simp only[aag];omega,by simp only[aag];omega,by simp only[aag];omega,rfl,by simp only[aag];omega,by simp only[aag];omega⟩
           | exact⟨4,by decide,by simp only[aag];omega,by simp only[aag];omega,by simp only[aag];omega,by simp only[aag];omega,rfl,by simp only[aag];omega,by simp only[aag];omega⟩
           | exact⟨5,by decide,by simp only[aag];omega,by simp only[aag];omega,by simp only[aag];omega,by simp only[aag];omega,rfl,by simp only[aag];omega,by simp only[aag];omega⟩
       refine⟨k,hk,?_,rowP_hit hk (by omega) (by omega),hk5,?_,?_⟩
       · simp only[List.getElem?_cons_zero,Option.getD_some];rw[e1];exact agt hk hk1 hk2
       · simp only[abg,secB,hk5,List.cons_append,List.nil_append,List.length_cons,List.take_succ_cons,List.take_zero,List.drop_succ_cons,List.drop_zero,List.all_cons,List.all_nil,ae8,List.getElem?_cons_succ,List.getElem?_cons_zero,Option.getD_some,e2,e3];simp;omega
       · show(((UInt8.ofNat (0xe0+p/4096)).toNat-adc 3)*64+((UInt8.ofNat (0x80+p/64 % 64)).toNat-128))*64+((UInt8.ofNat (0x80+p % 64)).toNat-128)=p
         rw[e1,e2,e3,show adc 3=0xe0 from rfl];omega)
    | (have e:enc p=[UInt8.ofNat (0xf0+p/262144),UInt8.ofNat (0x80+p/4096 % 64),UInt8.ofNat (0x80+p/64 % 64),UInt8.ofNat (0x80+p % 64)]:=by unfold enc;rw[if_neg (by omega),if_neg (by omega),if_neg (by omega)]
       have e1:(UInt8.ofNat (0xf0+p/262144)).toNat=0xf0+p/262144:=aar (by omega)
       have e2:(UInt8.ofNat (0x80+p/4096 % 64)).toNat=0x80+p/4096 % 64:=aar (by omega)
       have e3:(UInt8.ofNat (0x80+p/64 % 64)).toNat=0x80+p/64 % 64:=aar (by omega)
       have e4:(UInt8.ofNat (0x80+p % 64)).toNat=0x80+p % 64:=aar (by omega)
       rw[e]
       obtain⟨k,hk,hk1,hk2,hk3,hk4,hk5,hk6,hk7⟩: ∃k,k<9∧(aag k).first≤0xf0+p/262144∧0xf0+p/262144≤(aag k).last∧(aag k).least≤p∧p≤(aag k).most∧(aag k).size=4∧(aag k).low≤0x80+p/4096 % 64∧0x80+p/4096 % 64≤(aag k).high:=by
         first
           | exact⟨6,by decide,by simp only[aag];omega,by simp only[aag];omega,by simp only[aag];omega,by simp only[aag];omega,rfl,by simp only[aag];omega,by simp only[aag];omega⟩
           | exact⟨7,by decide,by simp only[aag];omega,by simp only[aag];omega,by simp only[aag];omega,by simp only[aag];omega,rfl,by simp only[aag];omega,by simp only[aag];omega⟩
           | exact⟨8,by decide,by simp only[aag];omega,by simp only[aag];omega,by simp only[aag];omega,by simp only[aag];omega,rfl,by simp only[aag];omega,by simp only[aag];omega⟩
       refine⟨k,hk,?_,rowP_hit hk (by omega) (by omega),hk5,?_,?_⟩
       · simp only[List.getElem?_cons_zero,Option.getD_some];rw[e1];exact agt hk hk1 hk2
       · simp only[abg,secB,hk5,List.cons_append,List.nil_append,List.length_cons,List.take_succ_cons,List.take_zero,List.drop_succ_cons,List.drop_zero,List.all_cons,List.all_nil,ae8,List.getElem?_cons_succ,List.getElem?_cons_zero,Option.getD_some,e2,e3,e4];simp;omega
       · show((((UInt8.ofNat (0xf0+p/262144)).toNat-adc 4)*64+((UInt8.ofNat (0x80+p/4096 % 64)).toNat-128))*64+((UInt8.ofNat (0x80+p/64 % 64)).toNat-128))*64+((UInt8.ofNat (0x80+p % 64)).toNat-128)=p
         rw[e1,e2,e3,e4,show adc 4=0xf0 from rfl];omega)
end Go.Vf
namespace Go.Proofs.YtpfkoldfbecdlaaGreatDoor
open Go.RowKit Go.Vf
structure Tabs (w:World):Prop where
 size:2≤w.heap.size
 r0: ∀k,k<9→w.cell? ⟨0,k*7,none⟩=some (.int .u8 ((aag k).first:Int))
 r1: ∀k,k<9→w.cell? ⟨0,k*7+1,none⟩=some (.int .u8 ((aag k).last:Int))
 r2: ∀k,k<9→w.cell? ⟨0,k*7+2,none⟩=some (.int .u8 ((aag k).low:Int))
 r3: ∀k,k<9→w.cell? ⟨0,k*7+3,none⟩=some (.int .u8 ((aag k).high:Int))
 r4: ∀k,k<9→w.cell? ⟨0,k*7+4,none⟩=some (.int .i64 ((aag k).size:Int))
 r5: ∀k,k<9→w.cell? ⟨0,k*7+5,none⟩=some (.int .i64 ((aag k).least:Int))
 r6: ∀k,k<9→w.cell? ⟨0,k*7+6,none⟩=some (.int .i64 ((aag k).most:Int))
 heads: ∀k,k<5→w.cell? ⟨1,k,none⟩=some (.int .u8 (adc k:Int))
theorem Tabs.below {w w':World}{B:Nat}(h:Tabs w)(hB:2≤B)(hb:Below B w w'):Tabs w':=by
 refine⟨Nat.le_trans h.size hb.size,?_,?_,?_,?_,?_,?_,?_,?_⟩
 ·exact fun k hk=>(hb.cell (p:=⟨0,_,none⟩) (by show 0<B;omega)).trans (h.r0 k hk)
 ·exact fun k hk=>(hb.cell (p:=⟨0,_,none⟩) (by show 0<B;omega)).trans (h.r1 k hk)
 ·exact fun k hk=>(hb.cell (p:=⟨0,_,none⟩) (by show 0<B;omega)).trans (h.r2 k hk)
 ·exact fun k hk=>(hb.cell (p:=⟨0,_,none⟩) (by show 0<B;omega)).trans (h.r3 k hk)
 ·exact fun k hk=>(hb.cell (p:=⟨0,_,none⟩) (by show 0<B;omega)).trans (h.r4 k hk)
 ·exact fun k hk=>(hb.cell (p:=⟨0,_,none⟩) (by show 0<B;omega)).trans (h.r5 k hk)
 ·exact fun k hk=>(hb.cell (p:=⟨0,_,none⟩) (by show 0<B;omega)).trans (h.r6 k hk)
 ·exact fun k hk=>(hb.cell (p:=⟨1,_,none⟩) (by show 1<B;omega)).trans (h.heads k hk)
theorem Tabs.own {w w':World}(h:Tabs w)(hb:Below w.heap.size w w'):Tabs w':=h.below h.size hb
def rowV (k:Nat):Value:=.agg #[.int .u8 ((aag k).first:Int),.int .u8 ((aag k).last:Int),.int .u8 ((aag k).low:Int),.int .u8 ((aag k).high:Int),.int .i64 ((aag k).size:Int),.int .i64 ((aag k).least:Int),.int .i64 ((aag k).most:Int)]
def noRowV:Value:=.agg #[.int .u8 0,.int .u8 0,.int .u8 0,.int .u8 0,.int .i64 0,.int .i64 0,.int .i64 0]
structure Box7 (w:World)(h:Nat)(a b c d e f g:Value):Prop where
 c0:w.cell? ⟨h,0,none⟩=some a
 c1:w.cell? ⟨h,1,none⟩=some b
 c2:w.cell? ⟨h,2,none⟩=some c
 c3:w.cell? ⟨h,3,none⟩=some d
 c4:w.cell? ⟨h,4,none⟩=some e
 c5:w.cell? ⟨h,5,none⟩=some f
 c6:w.cell? ⟨h,6,none⟩=some g
 f0:w.frozen? ⟨h,0,none⟩=false
 f1:w.frozen? ⟨h,1,none⟩=false
 f2:w.frozen? ⟨h,2,none⟩=false
 f3:w.frozen? ⟨h,3,none⟩=false
 f4:w.frozen? ⟨h,4,none⟩=false
 f5:w.frozen? ⟨h,5,none⟩=false
 f6:w.frozen? ⟨h,6,none⟩=false
 lt:h<w.heap.size
theorem Box7.new (w:World)(t:TypeId)(a b c d e f g:Value):Box7 (w.alloc (.cells #[a,b,c,d,e,f,g] t)) w.heap.size a b c d e f g:=by
 constructor<;>simp
def put7 (w:World)(h:Nat)(a b c d e f g:Value):World:=
 ((((((w.setCell ⟨h,0,none⟩ a).setCell ⟨h,1,none⟩ b).setCell ⟨h,2,none⟩ c).setCell ⟨h,3,none⟩ d).setCell ⟨h,4,none⟩ e).setCell ⟨h,5,none⟩ f).setCell ⟨h,6,none⟩ g
theorem Box7.put {w:World}{h:Nat}{a b c d e f g:Value}(x:Box7 w h a b c d e f g)(a' b' c' d' e' f' g':Value):Box7 (put7 w h a' b' c' d' e' f' g') h a' b' c' d' e' f' g':=by
 obtain⟨c0,c1,c2,c3,c4,c5,c6,f0,f1,f2,f3,f4,f5,f6,hlt⟩:=x
 unfold put7
 constructor<;>first | (simp only[World.frozen?_setCell,f0,f1,f2,f3,f4,f5,f6]) | (simp[World.cell?_setCell_other,World.cell?_setCell_same,c0,c1,c2,c3,c4,c5,c6,hlt])
theorem below_put7 {B:Nat}{a w:World}{h:Nat}(hb:Below B a w)(hB:B≤h)(a' b' c' d' e' f' g':Value):Below B a (put7 w h a' b' c' d' e' f' g'):=by
 unfold put7
 exact((((((hb.setCell (p:=⟨h,0,none⟩) hB _).setCell (p:=⟨h,1,none⟩) hB _).setCell (p:=⟨h,2,none⟩) hB _).setCell (p:=⟨h,3,none⟩) hB _).setCell (p:=⟨h,4,none⟩) hB _).setCell (p:=⟨h,5,none⟩) hB _).setCell (p:=⟨h,6,none⟩) hB _
theorem results27_run {tmps:Array Value}{w:World}{h:Nat}{a b c d e f g:Value}{x:Bool}(hx:Box7 w h a b c d e f g)(t2:tmps[2]?.getD undef=.pointer (some ⟨h,0,none⟩))(t3:tmps[3]?.getD undef=.bool x):
  (results Tryz.f131 tmps).run Tryz.prog w=.ok (.tuple #[.agg #[a,b,c,d,e,f,g],.bool x]) w:=by
 obtain⟨c0,c1,c2,c3,c4,c5,c6,f0,f1,f2,f3,f4,f5,f6,hlt⟩:=hx
 simp[results,Tryz.results131,go_sem,t2,t3,c0,c1,c2,c3,c4,c5,c6]
set_option maxHeartbeats 1000000 in
set_option maxRecDepth 20000 in
theorem rowOfByte_any (c:UInt8)(w:World)(ht:Tabs w):
  Calls Tryz.prog 131 #[.int .u8 (c.toNat:Int)] w fun e w'=>(∃R:Value,e=.returned (.tuple #[R,.bool (adm c.toNat).isSome])∧(∀k,adm c.toNat=some k→R=rowV k)∧(adm c.toNat=none→R=noRowV))∧Below w.heap.size w w':=by
 have hx:=Box7.new w 214 (.int .u8 0) (.int .u8 0) (.int .u8 0) (.int .u8 0) (.int .i64 0) (.int .i64 0) (.int .i64 0)
 have hb0:=(Below.refl w.heap.size w).alloc (Nat.le_refl _) (.cells #[.int .u8 0,.int .u8 0,.int .u8 0,.int .u8 0,.int .i64 0,.int .i64 0,.int .i64 0] 214)
 go_enter Tryz.func131,Tryz.ntmps131
 go_wp2
 go_loopw [5] (fun i wr=> ∃k:Nat,k≤9∧i=.int .i64 k∧(∀j,j<k→ ¬((aag j).first≤c.toNat∧c.toNat≤(aag j).last))∧wr=w.alloc (.cells #[.int .u8 0,.int .u8 0,.int .u8 0,.int .u8 0,.int .i64 0,.int .i64 0,.int .i64 0] 214)) (fun i _=>9-(intOf i).toNat)
 case atStart=>exact⟨0,by omega,rfl,fun j hj=>absurd hj (by omega),rfl⟩
 case round=>
  obtain⟨k,hk,rfl,hno,rfl⟩:=hrel
  generalize w.alloc (.cells #[.int .u8 0,.int .u8 0,.int .u8 0,.int .u8 0,.int .i64 0,.int .i64 0,.int .i64 0] 214)=W at hx hb0⊢
  have hx2:=hx
  obtain⟨c0,c1,c2,c3,c4,c5,c6,f0,f1,f2,f3,f4,f5,f6,hl⟩:=hx2
  by_cases hlt:k<9
  ·have ht2:=ht.own hb0
   have t0:=ht2.r0 k hlt
   have t1:=ht2.r1 k hlt
   have t2:=ht2.r2 k hlt
   have t3:=ht2.r3 k hlt
   have t4:=ht2.r4 k hlt
   have t5:=ht2.r5 k hlt
   have t6:=ht2.r6 k hlt
   clear ht ht2
   go_wp2
   ·have hf:(aag k).first≤c.toNat:=by assumption
    have hg:c.toNat≤(aag k).last:=by assumption
    have hr:adm c.toNat=some k:=agt hlt hf hg
    refine bodyPost_ret (results27_run (hx.put _ _ _ _ _ _ _) rfl rfl) rfl ⟨⟨rowV k,by rw[hr];rfl,fun k' h'=>by rw[hr] at h';cases h';rfl,fun h'=>by rw[hr] at h';cases h'⟩,?_⟩
    exact below_put7 hb0 (Nat.le_refl _) _ _ _ _ _ _ _
   ·have hg: ¬(c.toNat≤(aag k).last):=by omega
    go_roundw
    case rel=>exact⟨k+1,by omega,by go_num,fun j hj=>(Nat.lt_succ_iff_lt_or_eq.1 hj).elim (hno j) (fun h=>by subst h;exact fun h=>hg h.2),trivial⟩
    case measure=>simp[intOf];omega
   ·have hg: ¬((aag k).first≤c.toNat):=by omega
    go_roundw
    case rel=>exact⟨k+1,by omega,by go_num,fun j hj=>(Nat.lt_succ_iff_lt_or_eq.1 hj).elim (hno j) (fun h=>by subst h;exact fun h=>hg h.1),trivial⟩
    case measure=>simp[intOf];omega
  ·go_wp2
   have hr:adm c.toNat=none:=rowB_miss (fun j hj=>hno j (by omega))
   refine bodyPost_ret (results27_run (hx.put _ _ _ _ _ _ _) rfl rfl) rfl ⟨⟨noRowV,by rw[hr];rfl,fun k' h'=>(by rw[hr] at h';cases h'),fun _=>rfl⟩,?_⟩
   exact below_put7 hb0 (Nat.le_refl _) _ _ _ _ _ _ _
theorem list_get (s:ByteArray)(k:Nat)(h:k<s.size):s.data.toList[k]? =some s[k]:=by
 have:k<s.data.toList.length:=by rw[←Lib.size_eq];exact h
 rw[List.getElem?_eq_getElem this];rfl
theorem drop_take_cons (l:List UInt8)(n k:Nat)(h:k<n)(hl:k<l.length):(l.take n).drop k=l[k]::(l.take n).drop (k+1):=by
 have h2:k<(l.take n).length:=by simp;omega
 rw[List.drop_eq_getElem_cons h2];simp
theorem index_one (s:ByteArray)(h:1<s.size)(W:World):(Instr.index 9 (.string s) (.int .i64 1)).run Tryz.prog W=.ok (.int .u8 (s[1].toNat:Int)) W:=by
 simp[go_sem,Instr.index,h]
set_option maxHeartbeats 2000000 in
set_option maxRecDepth 20000 in
theorem whole_any (s:ByteArray)(k:Nat)(hk:k<9)(w:World)(hs:s.size≤4294967296):
  Calls Tryz.prog 132 #[.string s,rowV k] w fun e w'=>e=.returned (.bool (abg k s.data.toList))∧Below w.heap.size w w':=by
 obtain⟨R,HR⟩: ∃R,Hid (R=abg k s.data.toList):=⟨_,rfl⟩
 rw[←HR.out]
 have hlen:s.data.toList.length=s.size:=(Lib.size_eq s).symm
 have hx:=Box7.new w 214 (.int .u8 ((aag k).first:Int)) (.int .u8 ((aag k).last:Int)) (.int .u8 ((aag k).low:Int)) (.int .u8 ((aag k).high:Int)) (.int .i64 ((aag k).size:Int)) (.int .i64 ((aag k).least:Int)) (.int .i64 ((aag k).most:Int))
 have hb0:=(Below.refl w.heap.size w).alloc (Nat.le_refl _) (.cells #[.int .u8 ((aag k).first:Int),.int .u8 ((aag k).last:Int),.int .u8 ((aag k).low:Int),.int .u8 ((aag k).high:Int),.int .i64 ((aag k).size:Int),.int .i64 ((aag k).least:Int),.int .i64 ((aag k).most:Int)] 214)
 obtain⟨z,hz⟩: ∃z,z=(aag k).size:=⟨_,rfl⟩
 have hz1:1≤z∧z≤4:=by rw[hz];rcases acd hk with rfl | rfl | rfl | rfl | rfl | rfl | rfl | rfl | rfl<;>simp[aag]
 rw[←hz] at hx hb0
 unfold rowV
 rw[←hz]
 have HZ:Hid (z=(aag k).size):=hz
 clear hz
 go_enter Tryz.func132,Tryz.ntmps132
 by_cases h1:s.size<z
 ·go_wp2
  have hR:R=false:=by rw[HR.out];unfold abg;rw[←HZ.out,hlen];simp;omega
  go_ret
  exact⟨by rw[hR];rfl,hb0⟩
 ·go_wp2
  generalize w.alloc (.cells #[.int .u8 ((aag k).first:Int),.int .u8 ((aag k).last:Int),.int .u8 ((aag k).low:Int),.int .u8 ((aag k).high:Int),.int .i64 (z:Int),.int .i64 ((aag k).least:Int),.int .i64 ((aag k).most:Int)] 214)=W at hx hb0⊢
  obtain⟨c0,c1,c2,c3,c4,c5,c6,f0,f1,f2,f3,f4,f5,f6,hl⟩:=hx
  by_cases h2:z≤1
  ·have t1:decide ((1:Int)<(z:Int))=false:=by simp;omega
   have hR:R=true:=by
    rw[HR.out];unfold abg;rw[←HZ.out,hlen]
    have:(List.drop 2 (List.take z s.data.toList))=[]:=List.drop_eq_nil_of_le (by simp;omega)
    rw[this];simp;omega
   go_region
   go_wp2
   go_loopw [5] (fun i wr=>i=.int .i64 2∧wr=W.drew) (fun _ _=>0)
   case atStart=>exact⟨rfl,rfl⟩
   case round=>
    obtain⟨rfl,rfl⟩:=hrel
    go_wp2
    go_ret
    exact⟨by first | (rw[hR];rfl) | rfl,hb0.drew⟩
  ·have h3:1<s.size:=by omega
   have hi1:=index_one s h3
   have t1:decide ((1:Int)<(z:Int))=true:=by simp;omega
   have hg1:(s.data.toList[1]?.getD 0)=s[1]:=by rw[list_get s 1 h3];rfl
   by_cases h4:s[1].toNat<(aag k).low
   ·have t2:decide ((s[1].toNat:Int)<((aag k).low:Int))=true:=by simp;omega
    have hR:R=false:=by
     rw[HR.out];unfold abg secB;rw[←HZ.out,hlen,hg1]
     have e1:decide (z≤1)=false:=by simp;omega
     have e2:decide ((aag k).low≤s[1].toNat)=false:=by simp;omega
     rw[e1,e2];simp
    go_region
    go_wp2
    go_ret
    exact⟨by first | (rw[hR];rfl) | rfl,hb0.drew⟩
   ·have t2:decide ((s[1].toNat:Int)<((aag k).low:Int))=false:=by simp;omega
    by_cases h5:(aag k).high<s[1].toNat
    ·have t3:decide (((aag k).high:Int)<(s[1].toNat:Int))=true:=by simp;omega
     have hR:R=false:=by
      rw[HR.out];unfold abg secB;rw[←HZ.out,hlen,hg1]
      have e1:decide (z≤1)=false:=by simp;omega
      have e2:decide (s[1].toNat≤(aag k).high)=false:=by simp;omega
      rw[e1,e2];simp
     go_region
     go_wp2
     go_ret
     exact⟨by first | (rw[hR];rfl) | rfl,hb0.drew⟩
    ·have t3:decide (((aag k).high:Int)<(s[1].toNat:Int))=false:=by simp;omega
     have HR2:Hid (((s.data.toList.take z).drop 2).all ae8=R):=by
      show _=_
      rw[HR.out];unfold abg secB;rw[←HZ.out,hlen,hg1]
      have e1:decide (z≤s.size)=true:=by simp;omega
      have e2:decide (s[1].toNat≤(aag k).high)=true:=by simp;omega
      have e3:decide ((aag k).low≤s[1].toNat)=true:=by simp;omega
      rw[e1,e2,e3];simp
     go_region
     go_wp2
     go_loopw [5] (fun i wr=> ∃j:Nat,2≤j∧j≤4∧i=.int .i64 j∧Hid (((s.data.toList.take z).drop j).all ae8=R)∧wr=W.drew) (fun i _=>4-(intOf i).toNat)
     case atStart=>exact⟨2,by omega,by omega,rfl,HR2,rfl⟩
     case round=>
      obtain⟨j,hj1,hj2,rfl,HJ,rfl⟩:=hrel
      by_cases hlt:j<z
      ·have hjs:j<s.size:=by omega
       have hJ:=HJ.out
       rw[drop_take_cons _ z j hlt (by omega),List.all_cons] at hJ
       have hsj:s.data.toList[j]'(by omega)=s[j]:=rfl
       rw[hsj] at hJ
       by_cases h6:s[j].toNat<128
       ·have hR:R=false:=by rw[←hJ];unfold ae8;simp;omega
        clear hJ HJ HR2
        go_wp2
        go_ret
        exact⟨by first | (rw[hR];rfl) | rfl,hb0.drew⟩
       ·by_cases h7:191<s[j].toNat
        ·have hR:R=false:=by rw[←hJ];unfold ae8;simp;omega
         clear hJ HJ HR2
         go_wp2
         go_ret
         exact⟨by first | (rw[hR];rfl) | rfl,hb0.drew⟩
        ·have HK:Hid (((s.data.toList.take z).drop (j+1)).all ae8=R):=by
          show _=_
          rw[←hJ]
          have e1:ae8 s[j]=true:=by unfold ae8;simp;omega
          rw[e1];simp
         clear hJ HJ HR2
         go_wp2
         go_roundw
         case rel=>exact⟨j+1,by omega,by omega,by go_num,HK,trivial⟩
         case measure=>simp[intOf];omega
      ·have hR:R=true:=by
        rw[←HJ.out,List.drop_eq_nil_of_le (by simp;omega)];rfl
       clear HJ HR2
       go_wp2
       go_ret
       exact⟨by first | (rw[hR];rfl) | rfl,hb0.drew⟩
end Go.Proofs.YtpfkoldfbecdlaaGreatDoor
namespace Go.Vf
theorem enc_bytes {p:Nat}(hp:ag9 p):adc (enc p).length≤((enc p)[0]?.getD 0).toNat∧ ∀i,1≤i→i<(enc p).length→128≤((enc p)[i]?.getD 0).toNat∧((enc p)[i]?.getD 0).toNat≤191:=by
 unfold ag9 at hp
 by_cases h1:p<0x80
 ·have e:enc p=[UInt8.ofNat p]:=by unfold enc;rw[if_pos (by omega)]
  rw[e]
  exact⟨Nat.zero_le _,fun i h1 h2=>by simp at h2;omega⟩
 ·by_cases h2:p<0x800
  ·have e:enc p=[UInt8.ofNat (0xc0+p/64),UInt8.ofNat (0x80+p % 64)]:=by unfold enc;rw[if_neg (by omega),if_pos (by omega)]
   have e1:(UInt8.ofNat (0xc0+p/64)).toNat=0xc0+p/64:=aar (by omega)
   have e2:(UInt8.ofNat (0x80+p % 64)).toNat=0x80+p % 64:=aar (by omega)
   rw[e]
   refine⟨?_,fun i h1 h2=> ?_⟩
   ·show 0xc0≤(UInt8.ofNat (0xc0+p/64)).toNat
    omega
   ·simp only[List.length_cons,List.length_nil] at h2
    obtain rfl:i=1:=by omega
    show 128≤(UInt8.ofNat (0x80+p % 64)).toNat∧(UInt8.ofNat (0x80+p % 64)).toNat≤191
    omega
  ·by_cases h3:p<0x10000
   ·have e:enc p=[UInt8.ofNat (0xe0+p/4096),UInt8.ofNat (0x80+p/64 % 64),UInt8.ofNat (0x80+p % 64)]:=by unfold enc;rw[if_neg (by omega),if_neg (by omega),if_pos (by omega)]
    have e1:(UInt8.ofNat (0xe0+p/4096)).toNat=0xe0+p/4096:=aar (by omega)
    have e2:(UInt8.ofNat (0x80+p/64 % 64)).toNat=0x80+p/64 % 64:=aar (by omega)
    have e3:(UInt8.ofNat (0x80+p % 64)).toNat=0x80+p % 64:=aar (by omega)
    rw[e]
    refine⟨?_,fun i h1 h2=> ?_⟩
    ·show 0xe0≤(UInt8.ofNat (0xe0+p/4096)).toNat
     omega
    ·simp only[List.length_cons,List.length_nil] at h2
     rcases(show i=1∨i=2 by omega) with rfl | rfl
     ·show 128≤(UInt8.ofNat (0x80+p/64 % 64)).toNat∧(UInt8.ofNat (0x80+p/64 % 64)).toNat≤191
      omega
     ·show 128≤(UInt8.ofNat (0x80+p % 64)).toNat∧(UInt8.ofNat (0x80+p % 64)).toNat≤191
      omega
   ·have e:enc p=[UInt8.ofNat (0xf0+p/262144),UInt8.ofNat (0x80+p/4096 % 64),UInt8.ofNat (0x80+p/64 % 64),UInt8.ofNat (0x80+p % 64)]:=by unfold enc;rw[if_neg (by omega),if_neg (by omega),if_neg (by omega)]
    have e1:(UInt8.ofNat (0xf0+p/262144)).toNat=0xf0+p/262144:=aar (by omega)
    have e2:(UInt8.ofNat (0x80+p/4096 % 64)).toNat=0x80+p/4096 % 64:=aar (by omega)
    have e3:(UInt8.ofNat (0x80+p/64 % 64)).toNat=0x80+p/64 % 64:=aar (by omega)
    have e4:(UInt8.ofNat (0x80+p % 64)).toNat=0x80+p % 64:=aar (by omega)
    rw[e]
    refine⟨?_,fun i h1 h2=> ?_⟩
    ·show 0xf0≤(UInt8.ofNat (0xf0+p/262144)).toNat
     omega
    ·simp only[List.length_cons,List.length_nil] at h2
     rcases(show i=1∨i=2∨i=3 by omega) with rfl | rfl | rfl
     ·show 128≤(UInt8.ofNat (0x80+p/4096 % 64)).toNat∧(UInt8.ofNat (0x80+p/4096 % 64)).toNat≤191
      omega
     ·show 128≤(UInt8.ofNat (0x80+p/64 % 64)).toNat∧(UInt8.ofNat (0x80+p/64 % 64)).toNat≤191
      omega
     ·show 128≤(UInt8.ofNat (0x80+p % 64)).toNat∧(UInt8.ofNat (0x80+p % 64)).toNat≤191
      omega
end Go.Vf
namespace Go.Proofs.YtpfkoldfbecdlaaGreatDoor
open Go.RowKit Go.Vf
theorem index_zero (s:ByteArray)(h:0<s.size)(W:World):(Instr.index 9 (.string s) (.int .i64 0)).run Tryz.prog W=.ok (.int .u8 (s[0].toNat:Int)) W:=by
 simp[go_sem,Instr.index,h]
set_option maxHeartbeats 2000000 in
set_option maxRecDepth 20000 in
theorem pointOf_any (s:ByteArray)(p:Nat)(hp:ag9 p)(hs:s.data.toList=enc p)(w:World)(ht:Tabs w):
  Calls Tryz.prog 133 #[.string s] w fun e w'=>e=.returned (.int .i64 (p:Int))∧Below w.heap.size w w':=by
 have hlen:s.size=(enc p).length:=by rw[Lib.size_eq,hs]
 have h4:=enc_le p
 have h0:=agp p
 obtain⟨hb0,hbt⟩:=enc_bytes hp
 obtain⟨_,_,_,_,_,_,hacc⟩:=enc_row hp []
 obtain⟨z,hz⟩: ∃z,z=s.size:=⟨_,rfl⟩
 have hget: ∀i (h:i<s.size),((enc p)[i]?.getD 0)=s[i]:=fun i h=>by rw[←hs,list_get s i h];rfl
 have hp0:0<s.size:=by omega
 rw[hget 0 hp0,←hlen] at hb0
 have HA:Hid (aga (enc p) s.size=p):=by show _=_;rw[hlen];exact hacc
 have hA1:aga (enc p) 1=s[0].toNat-adc s.size:=by show _-adc (enc p).length=_;rw[hget 0 hp0,←hlen]
 have HAs: ∀i (h:i+1<s.size),Hid (aga (enc p) (i+2)=aga (enc p) (i+1)*64+(s[i+1].toNat-128)∧128≤s[i+1].toNat∧s[i+1].toNat≤191):=fun i h=>by
  show _∧_
  have:=hbt (i+1) (by omega) (by omega)
  rw[hget (i+1) h] at this
  exact⟨by show _*64+(((enc p)[i+1]?.getD 0).toNat-128)=_;rw[hget (i+1) h],this⟩
 have hi0:=index_zero s hp0
 have hh:=ht.heads s.size (by omega)
 have hu8:s[0].toNat<256:=s[0].toNat_lt
 have hw1:IntKind.u8.wrap ((s[0].toNat:Int)-(adc s.size:Int))=((aga (enc p) 1:Nat):Int):=by
  rw[hA1,IntWalk.u8_in _ ⟨by omega,by omega⟩];omega
 have hb1:aga (enc p) 1≤255:=by rw[hA1];omega
 have hsz:s.size≤4:=by omega
 clear hz hA1 hbt hget hacc h4 h0 hlen hs hb0 hu8
 go_enter Tryz.func133,Tryz.ntmps133
 go_wp2
 go_region
 go_wp2
 go_loopw [3,4] (fun n i wr=> ∃j:Nat,1≤j∧j≤s.size∧i=.int .i64 j∧n=.int .i64 ((aga (enc p) j:Nat):Int)∧(aga (enc p) j≤67375167∧(j≤3→aga (enc p) j≤1052735)∧(j≤2→aga (enc p) j≤16447)∧(j≤1→aga (enc p) j≤255))∧wr=w.drew) (fun _ i _=>s.size-(intOf i).toNat)
 case atStart=>exact⟨1,by omega,by omega,rfl,rfl,⟨by omega,fun _=>by omega,fun _=>by omega,fun _=>by omega⟩,rfl⟩
 case round=>
  obtain⟨j,hj1,hj2,rfl,rfl,⟨b4,b3,b2,b1⟩,rfl⟩:=hrel
  by_cases hlt:j<s.size
  ·obtain⟨i,rfl⟩: ∃i,j=i+1:=⟨j-1,by omega⟩
   obtain⟨e1,e2,e3⟩:=(HAs i hlt).out
   have hw2:IntKind.u8.wrap ((s[i+1].toNat:Int)-128)=((s[i+1].toNat-128:Nat):Int):=by rw[IntWalk.u8_in _ ⟨by omega,by omega⟩];omega
   go_wp2
   refine⟨⟨i+2,by omega,by omega,by go_num,by rw[e1];go_num,⟨by omega,fun _=>by omega,fun _=>by omega,fun _=>by omega⟩,trivial⟩,?_⟩
   simp[intOf];omega
  ·obtain rfl:j=s.size:=by omega
   go_wp2
   go_ret
   exact⟨by rw[show Ending.returned (Value.int .i64 (p:Int))=.returned (.int .i64 ((aga (enc p) s.size:Nat):Int)) by rw[HA.out]];rfl,(Below.refl _ _).drew⟩
end Go.Proofs.YtpfkoldfbecdlaaGreatDoor
namespace Go.Vf
def pl:Nat→List Nat→List (Nat×Int)
 | _,[]=>[]
 | at_,p::ps=>(at_,(p:Int))::pl (at_+(enc p).length) ps
theorem pl_append (at_:Nat)(a b:List Nat):pl at_ (a++b)=pl at_ a++pl (at_+(ac5 a).length) b:=by
 induction a generalizing at_ with
 | nil=>simp[pl,ac5]
 | cons p ps ih=>simp[pl,ac5,ih,Nat.add_assoc]
theorem pl_length (at_:Nat)(ps:List Nat):(pl at_ ps).length=ps.length:=by
 induction ps generalizing at_ with
 | nil=>rfl
 | cons p ps ih=>simp[pl,ih]
theorem pl_snd (at_:Nat)(ps:List Nat):(pl at_ ps).map (·.2)=ps.map (fun p:Nat=>(p:Int)):=by
 induction ps generalizing at_ with
 | nil=>rfl
 | cons p ps ih=>simp[pl,ih]
theorem pl_pos {at_:Nat}{ps:List Nat}{x:Nat×Int}(h:x∈pl at_ ps):0≤x.2:=by
 have:x.2∈(pl at_ ps).map (·.2):=List.mem_map_of_mem h
 rw[pl_snd] at this
 obtain⟨p,_,hp⟩:=List.mem_map.1 this
 omega
def full (ps:List Nat)(rest:List UInt8):List (Nat×Int):=pl 0 ps++(if rest=[] then [] else [((ac5 ps).length,-1)])
theorem full_length (ps:List Nat)(rest:List UInt8):(full ps rest).length≤(ac5 ps++rest).length:=by
 have:=abk ps
 unfold full
 rw[List.length_append,pl_length,List.length_append]
 cases rest with
 | nil=>simp;omega
 | cons c t=>simp;omega
theorem full_nil (ps:List Nat):full ps []=pl 0 ps:=by simp[full]
theorem full_broken (ps:List Nat){rest:List UInt8}(h:rest≠ []):full ps rest=pl 0 ps++[((ac5 ps).length,-1)]:=by simp[full,h]
theorem full_prefix (ps1 ps2:List Nat)(rest:List UInt8):pl 0 ps1 <+: full (ps1++ps2) rest:=by
 unfold full;rw[pl_append,List.append_assoc];exact List.prefix_append _ _
theorem full_end {ps:List Nat}{rest:List UInt8}{ini:List (Nat×Int)}{x:Nat×Int}(h:ini++[x] <+: full ps rest)(hx:x.2= -1):rest≠ []∧x.1=(ac5 ps).length∧ini=pl 0 ps:=by
 unfold full at h
 by_cases hr:rest=[]
 ·rw[if_pos hr,List.append_nil] at h
  have:x∈pl 0 ps:=h.subset (by simp)
  have:=pl_pos this
  omega
 ·rw[if_neg hr] at h
  obtain⟨t,ht⟩:=h
  rcases List.eq_nil_or_concat t with rfl | ⟨t',y,rfl⟩
  ·rw[List.append_nil] at ht
   obtain⟨h1,h2⟩:=List.append_inj' ht rfl
   simp only[List.cons.injEq,and_true] at h2
   exact⟨hr,by rw[h2],h1⟩
  ·rw[List.concat_eq_append,←List.append_assoc] at ht
   obtain⟨h1,h2⟩:=List.append_inj' ht rfl
   have:x∈pl 0 ps:=by rw[←h1];simp
   have:=pl_pos this
   omega
end Go.Vf
namespace Go.Proofs.YtpfkoldfbecdlaaGreatDoor
open Go.RowKit Go.Vf Go.Shelf
def Kpt (n₀:Nat)(A B:World):Prop:=Below n₀ A B∧ ∀k t cs,t=214∨t=9→Blk A k t cs→Blk B k t cs
theorem Kpt.trans {n₀:Nat}{A B C:World}(h:Kpt n₀ A B)(k:Kpt n₀ B C):Kpt n₀ A C:=⟨h.1.trans k.1,fun i t cs ht hi=>k.2 i t cs ht (h.2 i t cs ht hi)⟩
theorem Kpt.putObj {n₀:Nat}{w:World}(hn:n₀≤w.heap.size)(W:World)(l:Nat)(o o':Obj)(hl:w.heap.size≤l)(ho:W.heap[l]? =some o)(hc:o.isCells=false)(_:o.isWalk=false):Kpt n₀ W (W.putObj l o'):=by
 refine⟨?_,fun k t cs _ hk=> ?_⟩
 ·exact(Below.refl n₀ W).grown (grownBy_putObj' W l o') (by have:=(Array.getElem?_eq_some_iff.1 ho).1;omega) (fun k e=>by cases e;omega)
 ·have hne:k≠l:=by
   rintro rfl
   rw[show W.heap[k]? =_ from hk] at ho
   cases ho
   cases hc
  exact(World.putObj_heap_other hne).trans hk
theorem agl {A B:World}(h:Below A.heap.size A B):A.grownBy B none:=⟨h.os,h.tape,h.output,h.size,fun k hk _=>h.block k hk⟩
theorem keep_two {w w':World}{Bs b:Nat}{s:Value}{a0 a1 a2 a3 a4 a5 a6:Value}(hb:Below w.heap.size w w')
  (h:w.cell? ⟨Bs,0,none⟩=some s∧w.cell? ⟨b,0,none⟩=some a0∧w.cell? ⟨b,1,none⟩=some a1∧w.cell? ⟨b,2,none⟩=some a2∧w.cell? ⟨b,3,none⟩=some a3∧w.cell? ⟨b,4,none⟩=some a4∧w.cell? ⟨b,5,none⟩=some a5∧w.cell? ⟨b,6,none⟩=some a6∧Bs<w.heap.size∧b<w.heap.size):
  w'.cell? ⟨Bs,0,none⟩=some s∧w'.cell? ⟨b,0,none⟩=some a0∧w'.cell? ⟨b,1,none⟩=some a1∧w'.cell? ⟨b,2,none⟩=some a2∧w'.cell? ⟨b,3,none⟩=some a3∧w'.cell? ⟨b,4,none⟩=some a4∧w'.cell? ⟨b,5,none⟩=some a5∧w'.cell? ⟨b,6,none⟩=some a6∧Bs<w'.heap.size∧b<w'.heap.size:=by
 obtain⟨h0,h1,h2,h3,h4,h5,h6,h7,l1,l2⟩:=h
 exact⟨(hb.cell (p:=⟨Bs,0,none⟩) l1).trans h0,(hb.cell (p:=⟨b,0,none⟩) l2).trans h1,(hb.cell (p:=⟨b,1,none⟩) l2).trans h2,(hb.cell (p:=⟨b,2,none⟩) l2).trans h3,(hb.cell (p:=⟨b,3,none⟩) l2).trans h4,(hb.cell (p:=⟨b,4,none⟩) l2).trans h5,(hb.cell (p:=⟨b,5,none⟩) l2).trans h6,(hb.cell (p:=⟨b,6,none⟩) l2).trans h7,Nat.lt_of_lt_of_le l1 hb.size,Nat.lt_of_lt_of_le l2 hb.size⟩
end Go.Proofs.YtpfkoldfbecdlaaGreatDoor
