/- Contracts and lemmas (nothing is claimed here). -/
import Derived.Test.YtfhpgmlfgjfknaaGreatDoorJ26
import Derived.WalkMore
namespace Go.Proofs.YtfhpgmlfgjfknaaGreatDoor
open Go.RowKit Go.Vf Go.Maps
theorem a3c {w:World}{base g n cap:Nat}{e:TypeId}{size:Nat}{xs:List Value}(h:w.ownsRow base e size (.slice (some ⟨g,0,none⟩) n cap) n xs){m:Nat}(hm:m≤n):w.ownsRow base e size (.slice (some ⟨g,0,none⟩) m cap) m (xs.take (m*size)):=by
 obtain⟨h1,h2⟩:=h
 have hms:m*size≤n*size:=Nat.mul_le_mul_right _ hm
 refine⟨by rw[List.length_take,h1];exact Nat.min_eq_left hms,?_⟩
 rcases h2 with ⟨e,_⟩ | ⟨g',cap',cur,e,hb,hh,hc1,hc2,hc3,hc4⟩
 ·cases e
 ·cases e
  exact .inr ⟨g,cap,cur,rfl,hb,hh,by omega,hc2,hc3,by rw[←hc4,List.take_take,Nat.min_eq_left hms]⟩
theorem IOwn.take {w:World}{base g n cap:Nat}{zs:List Int}(h:IOwn w base (.slice (some ⟨g,0,none⟩) n cap) zs){m:Nat}(hm:m≤zs.length):IOwn w base (.slice (some ⟨g,0,none⟩) m cap) (zs.take m):=by
 obtain⟨a,c,hv⟩:=h.val
 have hn:n=zs.length:=(Value.slice.inj hv).2.1
 subst hn
 have:=a3c h hm
 unfold IOwn
 rw[List.length_take,Nat.min_eq_left hm,List.map_take]
 simpa using this
theorem auo (w:World)(base:Nat)(ty:TypeId)(v:Value)(zs:List Int)(n:Int)(hown:IOwn w base v zs)(a:Addr)(c:Nat)(hcell:w.cell? a=some (.int .i64 n))(hlen:zs.length≤1099511627776)(hbase:base≤w.heap.size):
  ∃v' w',(Builtin.append_ #[46,46] ty #[v,.slice (some a) 1 c]).run Tryz.prog w=.ok v' w'∧IOwn w' base v' (zs++[n])∧IOwn w' base v zs∧w.grownBy w' v.ownBlock:=by
 obtain⟨i,hi,hz,hsz,hby⟩:=info_parts at1
 have hnews: ∀j u,[Value.int .i64 n][j]? =some u→w.cell? (a.add j)=some u:=fun j u hj=>by
  match j,hj with
  | 0,hj=>simp at hj;subst hj;rw[show a.add 0=a by cases a;simp[Addr.add]];exact hcell
 have h1: ∀u∈[Value.int .i64 n],u.oneCell'=true:=fun u hu=>by simp at hu;subst hu;rfl
 obtain⟨v',w',hr,ho,hg,_,hat⟩:=run_append_own_at (P:=Tryz.prog) w base 46 ty 3 i (.int .i64 0) 1 8 Tryz.underlying46 hi hz hsz hby rfl (by decide) v zs.length (zs.map (Value.int .i64)) hown a 1 c [.int .i64 n] rfl hnews h1 (by unfold maxLen;omega) (by omega) hbase
 have ho':IOwn w' base v' (zs++[n]):=by unfold IOwn;rw[List.map_append,List.length_append];exact ho
 refine⟨v',w',hr,ho',?_,hg⟩
 have hown0:=hown
 rcases hown.2 with ⟨rfl,h0⟩ | ⟨g,cap,cur,rfl,hbg,hgg,hnc,hcm,hcs,htake⟩
 ·rw[List.eq_nil_of_length_eq_zero h0];exact IOwn.nil _ _
 ·by_cases hroom:zs.length+1≤cap
  ·have hfit:zs.length*i.size+[Value.int .i64 n].length≤cur.size:=by rw[hsz,hcs];simp;omega
   have hr2:=run_append_room (P:=Tryz.prog) w 46 ty 3 i Tryz.underlying46 hi g zs.length cap cur hgg a 1 c [.int .i64 n] (by rw[hsz];rfl) hnews h1 hroom hfit
   rw[hr] at hr2
   have e:=(Result.ok.inj hr2).1
   rw[e] at ho'
   have:=ho'.take (m:=zs.length) (by simp)
   simpa using this
  ·have holds: ∀j u,(zs.map (Value.int .i64))[j]? =some u→w.cell? ((⟨g,0,none⟩:Addr).add j)=some u:=World.ownsRow.cells (g:=g) hown rfl
   have hr2:=run_append_grow (P:=Tryz.prog) w 46 ty 3 i (.int .i64 0) Tryz.underlying46 hi hz ⟨g,0,none⟩ zs.length cap (zs.map (Value.int .i64)) (by rw[hsz];simp) holds a 1 c [.int .i64 n] (by rw[hsz];rfl) hnews (by omega) (by omega) (growslice_fits (by omega) (by rw[hby];omega))
   rw[hr] at hr2
   have e:=(Result.ok.inj hr2).2
   have hgn:w.grownBy w' none:=by
    rw[e]
    exact⟨rfl,rfl,rfl,by simp,fun k hk _=>Below.heap_alloc w.drew _ k hk⟩
   exact World.ownsRow.kept hown0 hgn (.inr (fun e=>by cases e))
theorem aff {w:World}{ops:Array Oper}{rest:List Oper}{o:Oper}{a:Act}{Q:Exit→Act→World→Prop}(hgd:o.guard=none)(s x:Operand)
  (ho:o.op=.call {callee:=.builtin .append,args:= #[s,x],argTypes:= #[46,46]})
  (base:Nat) (v:Value) (zs:List Int) (hs:a.eval s=v) (hown:IOwn w base v zs) (n:Int) (ad:Addr) (c:Nat) (hx:a.eval x=.slice (some ad) 1 c) (hcell:w.cell? ad=some (.int .i64 n))
  (hlen:zs.length≤1099511627776) (hbase:base≤w.heap.size)
  (h: ∀v' w',IOwn w' base v' (zs++[n])→IOwn w' base v zs→w.grownBy w' v.ownBlock→wpList Tryz.prog ops Q rest (a.put o.dst v') w'):
  wpList Tryz.prog ops Q (o::rest) a w:=by
 refine wpList_plain hgd fun K hK=> ?_
 obtain⟨v',w',hr,h2,h3,h4⟩:=auo w base o.type v zs n hown ad c hcell hlen hbase
 unfold Oper.wp execOp
 simp only[ho,resolve,invoke,builtin,Sem.run_bind,Sem.run_pure,Result.andThen_ok,List.map_toArray,List.map_cons,List.map_nil,hs,hx,hr]
 exact hK _ _ (h v' w' h2 h3 h4)
def Pc (n₀:Nat)(W:World)(b o:Nat)(p:List Int):Prop:=b<n₀∧ ∀j,j<p.length→W.cell? ⟨b,o+j,none⟩=some (.int .i64 (p[j]?.getD 0))
def Pcs (n₀:Nat)(W:World)(g off:Nat)(ps:List (List Int)):Prop:= ∀j (h:j<ps.length),∃b o c,W.cell? ⟨g,off+j,none⟩=some (.slice (some ⟨b,o,none⟩) ps[j].length c)∧ps[j].length≤c∧Pc n₀ W b o ps[j]
theorem Pc.same {n₀:Nat}{W W':World}{b o:Nat}{p:List Int}(h:Pc n₀ W b o p)(hb: ∀k,k<n₀→W'.heap[k]? =W.heap[k]?):Pc n₀ W' b o p:=⟨h.1,fun i hi=>(World.cell?_of_block (w:=W) (hb b h.1)).trans (h.2 i hi)⟩
theorem Pc.drop {n₀:Nat}{W:World}{b o:Nat}{p:List Int}(h:Pc n₀ W b o p){m o2:Nat}(ho:m<p.length→o2=o+m):Pc n₀ W b o2 (p.drop m):=by
 refine⟨h.1,fun j hj=> ?_⟩
 rw[List.length_drop] at hj
 rw[ho (by omega),List.getElem?_drop,←h.2 (m+j) (by omega)]
 congr 2
 omega
structure MWk (w₁:World)(bd T B g off cap:Nat)(ps:List (List Int))(W:World):Prop where
 below:Below w₁.heap.size w₁ W
 blk:Blk W B 221 #[.pointer (some ⟨bd,0,none⟩),.pointer (some ⟨T,0,none⟩),.slice (some ⟨g,off,none⟩) ps.length cap]
 cap:ps.length≤cap
 lowB:w₁.heap.size≤B
 lowg:w₁.heap.size≤g
 row: ∃cs,Blk W g 46 cs
 pcs:Pcs w₁.heap.size W g off ps
structure Mv (B g:Nat)(W W':World):Prop where
 size:W.heap.size≤W'.heap.size
 block: ∀k,k<W.heap.size→k≠B→k≠g→W'.heap[k]? =W.heap[k]?
theorem Mv.refl (B g:Nat)(W:World):Mv B g W W:=⟨Nat.le_refl _,fun _ _ _ _=>rfl⟩
theorem Mv.trans {B g:Nat}{a b c:World}(h:Mv B g a b)(k:Mv B g b c):Mv B g a c:=⟨Nat.le_trans h.size k.size,fun i hi h1 h2=>(k.block i (Nat.lt_of_lt_of_le hi h.size) h1 h2).trans (h.block i hi h1 h2)⟩
theorem Mv.below {B g:Nat}{W W':World}(h:Below W.heap.size W W'):Mv B g W W':=⟨h.size,fun k hk _ _=>h.block k hk⟩
section
variable {w₁ W W':World}{bd T B g off cap:Nat}{ps:List (List Int)}
theorem MWk.ne (h:MWk w₁ bd T B g off cap ps W):B≠g:=by
 obtain⟨cs,hc⟩:=h.row
 exact ar1 h.blk hc (by decide)
theorem Pcs.same (h:Pcs w₁.heap.size W g off ps)(hg:W'.heap[g]? =W.heap[g]?)(hb: ∀k,k<w₁.heap.size→W'.heap[k]? =W.heap[k]?):Pcs w₁.heap.size W' g off ps:=fun j hj=>by
 obtain⟨b,o,c,h1,h2,h3⟩:=h j hj
 exact⟨b,o,c,(World.cell?_of_block (w:=W) hg).trans h1,h2,h3.same hb⟩
theorem MWk.go (h:MWk w₁ bd T B g off cap ps W)(hb:Below W.heap.size W W'):MWk w₁ bd T B g off cap ps W':=by
 obtain⟨cs,hc⟩:=h.row
 exact⟨h.below.trans (hb.mono h.below.size),h.blk.below hb h.blk.lt,h.cap,h.lowB,h.lowg,⟨cs,hc.below hb hc.lt⟩,h.pcs.same (hb.block g hc.lt) (fun k hk=>hb.block k (Nat.lt_of_lt_of_le hk h.below.size))⟩
theorem MWk.cells (h:MWk w₁ bd T B g off cap ps W):W.cell? ⟨B,0,none⟩=some (.pointer (some ⟨bd,0,none⟩))∧W.cell? ⟨B,1,none⟩=some (.pointer (some ⟨T,0,none⟩))∧W.cell? ⟨B,2,none⟩=some (.slice (some ⟨g,off,none⟩) ps.length cap):=⟨h.blk.cell 0,h.blk.cell 1,h.blk.cell 2⟩
theorem MWk.piece (h:MWk w₁ bd T B g off cap ps W){j:Nat}(hj:j<ps.length): ∃b o c,W.cell? ⟨g,off+j,none⟩=some (.slice (some ⟨b,o,none⟩) ps[j].length c)∧ps[j].length≤c∧Pc w₁.heap.size W b o ps[j]:=h.pcs j hj
theorem MWk.frozenB (h:MWk w₁ bd T B g off cap ps W)(j:Nat):W.frozen? ⟨B,j,none⟩=false:=h.blk.frozen j
theorem MWk.frozeng (h:MWk w₁ bd T B g off cap ps W)(j:Nat):W.frozen? ⟨g,j,none⟩=false:=by
 obtain⟨cs,hc⟩:=h.row
 exact hc.frozen j
theorem MWk.tail {p:List Int}(h:MWk w₁ bd T B g off cap (p::ps) W){o2:Nat}(ho:ps≠ []→o2=off+1):MWk w₁ bd T B g o2 (cap-1) ps (W.setCell ⟨B,2,none⟩ (.slice (some ⟨g,o2,none⟩) ps.length (cap-1)))∧Mv B g W (W.setCell ⟨B,2,none⟩ (.slice (some ⟨g,o2,none⟩) ps.length (cap-1))):=by
 obtain⟨cs,hc⟩:=h.row
 have hne:=h.ne
 have hcap:=h.cap
 have hsame: ∀k,k≠B→(W.setCell ⟨B,2,none⟩ (.slice (some ⟨g,o2,none⟩) ps.length (cap-1))).heap[k]? =W.heap[k]?:=fun k hk=>Below.heap_setCell W _ _ k hk
 refine⟨⟨h.below.setCell h.lowB _,by have:=h.blk.set 2 (.slice (some ⟨g,o2,none⟩) ps.length (cap-1));simpa using this,by simp at hcap;omega,h.lowB,h.lowg,⟨cs,(hsame g (Ne.symm hne)).trans hc⟩,?_⟩,⟨by simp[World.setCell],fun k _ h1 _=>hsame k h1⟩⟩
 refine Pcs.same (W:=W) (fun j hj=> ?_) (hsame g (Ne.symm hne)) (fun k hk=>hsame k (by have:=h.lowB;omega))
 obtain⟨b,o,c,h1,h2,h3⟩:=h.pcs (j+1) (by simp;omega)
 simp only[List.getElem_cons_succ] at h1 h2 h3
 have e:=ho (fun e=>by rw[e] at hj;simp at hj)
 exact⟨b,o,c,by rw[←h1,e];congr 2;omega,h2,h3⟩
theorem MWk.set (h:MWk w₁ bd T B g off cap ps W){i:Nat}{q:List Int}{b o c:Nat}(hi:i<ps.length)(hq:Pc w₁.heap.size W b o q)(hqc:q.length≤c):MWk w₁ bd T B g off cap (ps.set i q) (W.setCell ⟨g,off+i,none⟩ (.slice (some ⟨b,o,none⟩) q.length c))∧Mv B g W (W.setCell ⟨g,off+i,none⟩ (.slice (some ⟨b,o,none⟩) q.length c)):=by
 obtain⟨cs,hc⟩:=h.row
 have hne:=h.ne
 have hsame: ∀k,k≠g→(W.setCell ⟨g,off+i,none⟩ (.slice (some ⟨b,o,none⟩) q.length c)).heap[k]? =W.heap[k]?:=fun k hk=>Below.heap_setCell W _ _ k hk
 have hlow: ∀k,k<w₁.heap.size→(W.setCell ⟨g,off+i,none⟩ (.slice (some ⟨b,o,none⟩) q.length c)).heap[k]? =W.heap[k]?:=fun k hk=>hsame k (by have:=h.lowg;omega)
 have hset:=hc.set (off+i) (.slice (some ⟨b,o,none⟩) q.length c)
 have hcsz:off+i<cs.size:=by
  obtain⟨b',o',c',h1,_⟩:=h.pcs i hi
  rw[hc.cell] at h1
  exact(Array.getElem?_eq_some_iff.1 h1).1
 refine⟨⟨h.below.setCell h.lowg _,by rw[List.length_set];exact(hsame B hne).trans h.blk,by rw[List.length_set];exact h.cap,h.lowB,h.lowg,⟨_,hset⟩,fun j hj=> ?_⟩,⟨by simp[World.setCell],fun k _ _ h2=>hsame k h2⟩⟩
 rw[List.length_set] at hj
 by_cases e:i=j
 ·subst e
  refine⟨b,o,c,?_,by simpa using hqc,by simpa using hq.same hlow⟩
  rw[hset.cell]
  simp[hcsz]
 ·obtain⟨b',o',c',h1,h2,h3⟩:=h.pcs j hj
  rw[List.getElem_set_ne e]
  refine⟨b',o',c',?_,h2,h3.same hlow⟩
  rw[hset.cell,Array.getElem?_setIfInBounds_ne (by omega),←hc.cell]
  exact h1
end
def RowsAt (W:World)(base:Nat)(v:Value)(rs:List (List Int)):Prop:= ∃vs:List Value,W.ownsRow base 46 1 v rs.length vs∧ ∀i (h:i<rs.length),∃u,vs[i]? =some u∧IOwn W base u rs[i]
theorem RowsAt.nil (W:World)(base:Nat):RowsAt W base (.slice none 0 0) []:=⟨[],World.ownsRow_nil _ _ _ _,fun i h=>absurd h (by simp)⟩
theorem RowsAt.val {W:World}{base:Nat}{v:Value}{rs:List (List Int)}(h:RowsAt W base v rs): ∃a c,v=.slice a rs.length c:=by
 obtain⟨vs,h1,_⟩:=h
 exact aax h1
def a6f (B:Nat)(W:World):Nat:=match W.cell? ⟨B,2,none⟩ with
 | some (.slice _ n _)=>n
 | _=>0
theorem api {B n c:Nat}{W:World}{a:Option Addr}(h:W.cell? ⟨B,2,none⟩=some (.slice a n c)):a6f B W=n:=by unfold a6f;rw[h]
set_option maxHeartbeats 2000000 in
theorem a3g {w₁:World}{bd T B g off cap:Nat}{ps:List (List Int)}{W:World}(hk:MWk w₁ bd T B g off cap ps W)(hl:ps.length≤4611686018427387904):
  Calls Tryz.prog 148 #[.pointer (some ⟨B,0,none⟩)] W fun e W'=> ∃b off' cap' ps',e=.returned (.bool b)∧MWk w₁ bd T B g off' cap' ps' W'∧Mv B g W W'∧(∃n,ps=List.replicate n []++ps')∧((b=true∧ ∃x t r,ps'=(x::t)::r)∨(b=false∧ps'=[])):=by
 go_enter Tryz.func148,Tryz.ntmps148
 go_wp2_with fail
 go_loopw [] (fun wr=> ∃off' cap' ps',MWk w₁ bd T B g off' cap' ps' wr∧Mv B g W wr∧ ∃n,ps=List.replicate n []++ps') (fun wr=>a6f B wr)
 case atStart=>exact⟨off,cap,ps,hk,Mv.refl _ _ _,0,by simp⟩
 case round=>
  clear hk
  obtain⟨off',cap',ps',hk,hmv,n,hn⟩:=hrel
  have hl':ps'.length≤4611686018427387904:=by have:=congrArg List.length hn;simp at this;omega
  obtain⟨c0,c1,c2⟩:=hk.cells
  have hfr:=hk.frozenB 2
  have hcap:=hk.cap
  cases ps' with
  | nil=>
   simp only[List.length_nil] at c2
   go_wp2
   go_ret
   exact⟨false,off',cap',[],rfl,hk,hmv,⟨n,hn⟩,.inr ⟨rfl,rfl⟩⟩
  | cons p r=>
   obtain⟨pb,po,c,d0,d1,d2⟩:=hk.piece (j:=0) (by simp)
   simp only[List.getElem_cons_zero,Nat.add_zero] at d0 d1 d2
   simp only[List.length_cons] at c2 hl' hcap
   cases p with
   | nil=>
    have hms:=api c2
    simp only[List.length_nil] at d0
    by_cases hc1:cap'=1
    ·obtain⟨ht,hm2⟩:=hk.tail (o2:=off') (fun h=>absurd (List.eq_nil_of_length_eq_zero (by omega)) h)
     have hms2:=api ht.cells.2.2
     have e0:cap'-1=0:=by omega
     rw[e0] at ht hm2 hms2
     clear e0
     go_wp2
     go_roundw
     case rel=>exact⟨_,_,_,ht,hmv.trans hm2,n+1,by rw[hn];simp[List.replicate_succ']⟩
     case measure=>rw[hms2,hms];omega
    ·obtain⟨ht,hm2⟩:=hk.tail (o2:=off'+1) (fun _=>rfl)
     have hms2:=api ht.cells.2.2
     go_wp2
     go_roundw
     case rel=>exact⟨_,_,_,ht,hmv.trans hm2,n+1,by rw[hn];simp[List.replicate_succ']⟩
     case measure=>rw[hms2,hms];omega
   | cons x t=>
    simp only[List.length_cons] at d0
    go_wp2
    go_ret
    exact⟨true,off',cap',(x::t)::r,rfl,hk,hmv,⟨n,hn⟩,.inl ⟨rfl,x,t,r,rfl⟩⟩
set_option maxHeartbeats 4000000 in
theorem av5 {w₁:World}{bd T B g off cap:Nat}{ps:List (List Int)}{W:World}(hk:MWk w₁ bd T B g off cap ps W)(hl:ps.length≤4611686018427387904)(hpl: ∀p∈ps,p.length≤4611686018427387904)(n:Nat)(hn:n≤ps.flatten.length)(hn8:n≤8):
  Calls Tryz.prog 176 #[.pointer (some ⟨B,0,none⟩),.int .i64 n] W fun e W'=>e=.returned (.tuple #[])∧MWk w₁ bd T B g off cap (acb n ps) W'∧Mv B g W W':=by
 go_enter Tryz.func176,Tryz.ntmps176
 go_wp2_with fail
 go_loopw [1,4] (fun nv iv wr=> ∃(k i:Nat) (cur:List (List Int)),nv=.int .i64 k∧iv=.int .i64 i∧i≤cur.length∧k≤8∧k≤(cur.drop i).flatten.length∧Hid (cur.take i++acb k (cur.drop i)=acb n ps)∧Hid (cur.length=ps.length∧ ∀p∈cur,p.length≤4611686018427387904)∧MWk w₁ bd T B g off cap cur wr∧Mv B g W wr) (fun _ iv _=>ps.length-(intOf iv).toNat)
 case atStart=>exact⟨n,0,ps,rfl,rfl,by omega,hn8,by simpa using hn,by show _=_;simp,⟨rfl,hpl⟩,hk,Mv.refl _ _ _⟩
 case round=>
  clear hk
  obtain⟨k,i,cur,rfl,rfl,hi,hk8,hkf,HE,HC,hk,hmv⟩:=hrel
  by_cases hk0:0<k
  ·have hlt:i<cur.length:=by
    rcases Nat.lt_or_ge i cur.length with h | h
    ·exact h
    ·rw[List.drop_of_length_le h] at hkf;simp at hkf;omega
   obtain⟨c0,c1,c2⟩:=hk.cells
   obtain⟨pb,po,c,d0,d1,d2⟩:=hk.piece hlt
   have hfg:=hk.frozeng (off+i)
   have hcl:cur.length≤4611686018427387904:=by have:=HC.out.1;omega
   have hms:i<ps.length:=by have:=HC.out.1;omega
   have hdr:cur.drop i=cur[i]::cur.drop (i+1):=List.drop_eq_getElem_cons hlt
   have hp:=HC.out.2 _ (List.getElem_mem hlt)
   have HN:Hid (∀m,m=min k cur[i].length→k-m≤((cur.set i (cur[i].drop m)).drop (i+1)).flatten.length∧(cur.set i (cur[i].drop m)).take (i+1)++acb (k-m) ((cur.set i (cur[i].drop m)).drop (i+1))=acb n ps∧(cur.set i (cur[i].drop m)).length=ps.length∧ ∀p∈cur.set i (cur[i].drop m),p.length≤4611686018427387904):=fun m hm=>by
    have e1:(cur.set i (cur[i].drop m)).drop (i+1)=cur.drop (i+1):=List.drop_set_of_lt (Nat.lt_succ_self i)
    have e2:(cur.set i (cur[i].drop m)).take (i+1)=cur.take i++[cur[i].drop m]:=by
     rw[List.take_succ_eq_append_getElem (by simpa using hlt),List.take_set_of_le (Nat.le_refl i)]
     simp
    refine⟨?_,?_,by rw[List.length_set];exact HC.out.1,fun p hp=> ?_⟩
    ·rw[e1]
     rw[hdr,List.flatten_cons,List.length_append] at hkf
     omega
    ·rw[e1,e2,←HE.out,hdr,acb,hm]
     simp
    ·rcases List.mem_or_eq_of_mem_set hp with h | rfl
     ·exact HC.out.2 p h
     ·have:=HC.out.2 _ (List.getElem_mem hlt)
      rw[List.length_drop]
      omega
   have HW:Hid (∀(m o2:Nat),m≤cur[i].length→(m<cur[i].length→o2=po+m)→ ∃cur',cur'=cur.set i (cur[i].drop m)∧MWk w₁ bd T B g off cap cur' (wr.setCell ⟨g,off+i,none⟩ (.slice (some ⟨pb,o2,none⟩) (cur[i].length-m) (c-m))).drew∧Mv B g W (wr.setCell ⟨g,off+i,none⟩ (.slice (some ⟨pb,o2,none⟩) (cur[i].length-m) (c-m))).drew):=fun m o2 hm ho=>by
    obtain⟨y1,y2⟩:=hk.set (q:=cur[i].drop m) (b:=pb) (o:=o2) (c:=c-m) hlt (d2.drop ho) (by rw[List.length_drop];omega)
    rw[List.length_drop] at y1 y2
    exact⟨_,rfl,y1.go (Below.refl _ _).drew,(hmv.trans y2).trans (Mv.below (Below.refl _ _).drew)⟩
   clear hdr d2 HE hkf
   generalize cur[i].length=L at d0 d1 hp HN HW
   have hstep: ∀m:Nat,m=min k L→min (k:Int) (L:Int)=(m:Int):=fun m hm=>by omega
   have hgo: ∀m:Nat,m=min k L→ ∃o2,(if c=m then some (⟨pb,po,none⟩:Addr) else some ⟨pb,po+m,none⟩)=some ⟨pb,o2,none⟩∧(m<L→o2=po+m):=fun m hm=>by
    by_cases h:c=m
    ·exact⟨po,by rw[if_pos h],fun h2=>by omega⟩
    ·exact⟨po+m,by rw[if_neg h],fun _=>rfl⟩
   obtain⟨m,hm⟩: ∃m,m=min k L:=⟨_,rfl⟩
   have hm1:=hstep m hm
   obtain⟨o2,hif,ho2⟩:=hgo m hm
   obtain⟨x1,x2,x3,x4⟩:=HN.out m hm
   obtain⟨cur',hcur,y1,y2⟩:=HW.out m o2 (by omega) ho2
   rw[←hcur] at x1 x2 x3 x4
   have X2:Hid _:=x2
   have X34:Hid (cur'.length=ps.length∧ ∀p∈cur',p.length≤4611686018427387904):=⟨x3,x4⟩
   have hmk:m≤k∧m≤L:=by omega
   clear HN HW hstep hgo x2 x3 x4 hcur hm ho2
   go_upto_region 4 with fail
   go_region
   go_wp2_with fail
   go_roundw
   case rel=>exact⟨k-m,i+1,cur',by simp;omega,by simp,by have:=X34.out.1;omega,by omega,x1,X2,X34,y1,y2⟩
   case measure=>simp only[intOf];omega
  ·obtain rfl:k=0:=by omega
   have hE:=HE.out
   rw[ama,List.take_append_drop] at hE
   subst hE
   go_wp2_with fail
   go_end0
   exact⟨rfl,hk,hmv⟩
theorem apg {t:List UInt8}{L:List Mk}{E:Int→List Int}(h:aaw t=.ok (L,E))(p:Int):0≤aaa L p∧aaa L p≤254:=by
 obtain⟨hlen,hl,_⟩:=acx h
 exact a4u (abc hlen hl).1 p
theorem a0y {t:List UInt8}{L:List Mk}{E:Int→List Int}(h:aaw t=.ok (L,E)){ps:List Int}(hps: ∀q∈ps,InI q): ∀q∈abv E ps,InI q:=fun q hq=>by
 obtain⟨p,hp,hq⟩:=List.mem_flatMap.1 hq
 exact a2z h (hps p hp) hq
theorem flat_len {w:World}{bd:Nat}{L:List Mk}{E:Int→List Int}(h:DataAt w bd L E)(ps:List Int):(abv E ps).length≤57*ps.length∧ps.length≤(abv E ps).length:=by
 induction ps with
 | nil=>simp[abv]
 | cons x r ih=>
  have:=h.plen x
  rw[show abv E (x::r)=aa4 E x++abv E r from rfl,List.length_append,List.length_cons]
  omega
structure Numb (w:World)(a:Option Addr)(k c:Nat)(zs:List Int):Prop where
 ints:Ints w.heap.size w (.slice a k c) zs
 len:k=zs.length
 int: ∀q∈zs,InI q
 few:zs.length≤1000000000
theorem a0w {t:List UInt8}{L:List Mk}{E:Int→List Int}(h:aaw t=.ok (L,E)){bd:Nat}{a:Option Addr}{k c:Nat}{ps:List Int}{w:World}(hd:DataAt w bd L E)(hn:Numb w a k c ps):
  Calls Tryz.prog 20 #[.pointer (some ⟨bd,0,none⟩),.slice a k c] w fun e w'=>FormPost L E w ps e w':=by
 have:=flat_len hd ps
 have h1:=hn.few
 have h2:=hn.len
 exact a4b bd L E a k c ps w hn.int (a0y h hn.int) (fun p=>(apg h p).1) hd hn.ints hn.len (by omega) (by omega)
def Glob (w:World):Prop:= ∃m,w.cell? ⟨2,0,none⟩=some (.int .i64 m)
theorem Glob.below {w w':World}(h:Glob w)(hb:Below w.heap.size w w'):Glob w':=by
 obtain⟨m,hm⟩:=h
 exact⟨m,(hb.cell (p:=⟨2,0,none⟩) (World.block_lt_of_cell? w _ hm)).trans hm⟩
theorem azz (s:ByteArray)(w:World)(hg:Glob w)(hbig:s.size≤281474976710656):Calls Tryz.prog 17 #[.string s] w fun e w'=>av7 (aaw s.data.toList) w e w':=by
 obtain⟨m,hm⟩:=hg
 exact a3n s m w hm hbig
theorem IOwn.form1 {w:World}{base:Nat}{a:Option Addr}{k c:Nat}{zs:List Int}(h:IOwn w base (.slice a k c) zs):k=zs.length:=by
 obtain⟨a',c',e⟩:=h.val
 exact(Value.slice.inj e).2.1
set_option maxHeartbeats 4000000 in
theorem a0u {w₁:World}{bd T B g off cap:Nat}{ps:List (List Int)}{W:World}(hk:MWk w₁ bd T B g off cap ps W)(hl:ps.length≤4611686018427387904)(hpl: ∀p∈ps,p.length≤4611686018427387904)(most:Nat)(hm:most≤8):
  Calls Tryz.prog 208 #[.pointer (some ⟨B,0,none⟩),.int .i64 most] W fun e W'=> ∃gr k c,e=.returned (.slice (some ⟨gr,0,none⟩) k c)∧IOwn W' W.heap.size (.slice (some ⟨gr,0,none⟩) k c) (ps.flatten.take most)∧Below W.heap.size W W':=by
 have HM:Hid (most≤8):=hm
 clear hm
 generalize hR:ps.flatten.take most=R
 have HR:Hid (([]++(ps.drop 0).flatten).take most=R):=by show _=_;simpa using hR
 clear hR
 obtain⟨c0,c1,c2⟩:=hk.cells
 obtain⟨i0,hi0,hz0,hsz0,hby0⟩:=info_parts at1
 have HI0:Hid (i0.bytes=8):=hby0
 clear hby0
 go_enter Tryz.func208,Tryz.ntmps208
 go_wp2
 go_step3
 go_wp2_with (first | (at_make;refine wpList_make_own _ rfl _ _ 46 rfl W.heap.size 3 i0 (.int .i64 0) 1 Tryz.underlying46 hi0 hz0 hsz0 .i64 .i64 _ most rfl rfl rfl (by have:=HM.out;rw[HI0.out];omega) (by have:=HM.out;unfold maxLen;omega) (Nat.le_refl _) ?_;intro w0 hown0 hgrow0))
 have hb0:Below W.heap.size W w0:=(Below.refl _ W).grown hgrow0 (Nat.le_refl _) (fun j hj=>by cases hj)
 have HOWN0:Aside (IOwn w0 W.heap.size (.slice (some ⟨W.heap.size,0,none⟩) 0 most) []):=hown0
 have c2':=(hb0.cell (p:=⟨B,2,none⟩) hk.blk.lt).trans c2
 clear hown0 hgrow0 hi0 hz0 hsz0 HI0
 go_step3
 go_wp2_with fail
 go_loopw [5,17] (fun v i wr=> ∃(k:Nat) (acc:List Int) (gg kk cc:Nat),k≤ps.length∧i=.int .i64 k∧v=.slice (some ⟨gg,0,none⟩) kk cc∧Aside (IOwn wr W.heap.size (.slice (some ⟨gg,0,none⟩) kk cc) acc)∧Hid ((acc++(ps.drop k).flatten).take most=R)∧acc.length≤most∧Below W.heap.size W wr) (fun _ i _=>ps.length-(intOf i).toNat)
 case atStart=>exact⟨0,[],W.heap.size,0,most,by omega,rfl,rfl,HOWN0,HR,by simp,hb0⟩
 case round=>
  clear HOWN0 hb0 HR c2'
  obtain⟨k,acc,gg,kk,cc,hkk,rfl,rfl,HOWN,HK,hacc,hbel⟩:=hrel
  by_cases hlt:k<ps.length
  ·obtain⟨b3,o3,c,e0,d1,d2⟩:=hk.piece hlt
   obtain⟨csg,hcg⟩:=hk.row
   have d0:=(hbel.cell (p:=⟨g,off+k,none⟩) hcg.lt).trans e0
   have hpk:=hpl _ (List.getElem_mem hlt)
   have hdr:ps.drop k=ps[k]::ps.drop (k+1):=List.drop_eq_getElem_cons hlt
   have HK2:Hid ((acc++(ps[k].drop 0)++(ps.drop (k+1)).flatten).take most=R):=by
    show _=_
    rw[←HK.out,hdr]
    simp only[List.drop_zero,List.flatten_cons,List.append_assoc]
   generalize ps[k]=p at e0 d0 d1 d2 HK2 hpk
   clear HK hdr e0
   have c2':=(hbel.cell (p:=⟨B,2,none⟩) hk.blk.lt).trans c2
   go_wp2_with fail
   go_loopw [5,23] (fun v j wr2=> ∃(n:Nat) (ac:List Int) (gg kk cc:Nat),n≤p.length∧j=.int .i64 n∧v=.slice (some ⟨gg,0,none⟩) kk cc∧Aside (IOwn wr2 W.heap.size (.slice (some ⟨gg,0,none⟩) kk cc) ac)∧Hid ((ac++(p.drop n)++(ps.drop (k+1)).flatten).take most=R)∧ac.length≤most∧Below W.heap.size W wr2) (fun _ j _=>p.length-(intOf j).toNat)
   case atStart=>exact⟨0,acc,gg,kk,cc,by omega,rfl,rfl,HOWN,HK2,hacc,hbel⟩
   case round=>
    clear HK2 HOWN hacc d0
    obtain⟨n,ac,gg2,kk2,cc2,hn,rfl,rfl,HOWN,HK,hac,hbel2⟩:=hrel
    have hkk2:=HOWN.out.form1
    subst hkk2
    by_cases hln:n<p.length
    ·have hcj:=(hbel2.cell (p:=⟨b3,o3+n,none⟩) (Nat.lt_of_lt_of_le d2.1 hk.below.size)).trans (d2.2 n hln)
     rw[show p[n]?.getD 0=p[n] by simp[List.getElem?_eq_getElem hln]] at hcj
     have hdr:p.drop n=p[n]::p.drop (n+1):=List.drop_eq_getElem_cons hln
     by_cases hfull:ac.length=most
     ·have hRR:R=ac:=by rw[←HK.out,List.append_assoc,List.take_append_of_le_length (by omega),List.take_of_length_le (by omega)]
      clear HK hdr
      have hf2:((ac.length:Int)==(most:Int))=true:=by simp[hfull]
      clear hfull
      go_wp2_with fail
      try rw[Exit.noGoto_ret]
      go_ret
      rw[hRR]
      exact⟨_,_,_,rfl,HOWN.out,hbel2⟩
     ·have hf2:((ac.length:Int)==(most:Int))=false:=by simp;omega
      have HK2:Hid (((ac++[p[n]])++(p.drop (n+1))++(ps.drop (k+1)).flatten).take most=R):=by
       show _=_
       rw[←HK.out,hdr]
       simp only[List.append_assoc,List.cons_append,List.nil_append]
      have hlq:ac.length+1≤most:=by omega
      have HM8:=HM.out
      generalize p[n]=q at hcj HK2
      clear HK hdr hfull
      have hsz2:W.heap.size≤wr.heap.size:=hbel2.size
      have hbA:=(Below.refl wr.heap.size wr).alloc (Nat.le_refl _) (.cells #[.int .i64 q] 3)
      have hnb:=Blk.new wr 3 #[.int .i64 q]
      have HOWN2:Aside (IOwn (wr.alloc (.cells #[.int .i64 q] 3)) W.heap.size (.slice (some ⟨gg2,0,none⟩) ac.length cc2) ac):=aad HOWN.out hbA
      have hszA:W.heap.size≤(wr.alloc (.cells #[.int .i64 q] 3)).heap.size:=Nat.le_trans hsz2 hbA.size
      go_wp2_with (first | (at_builtin;refine aff rfl _ _ rfl W.heap.size _ ac rfl HOWN2.out q ⟨wr.heap.size,0,none⟩ _ rfl (hnb.cell 0) (by omega) hszA ?_;intro v4 w4 hown4 hold4 hgr4;obtain⟨a4,c4,rfl⟩:=hown4.val;obtain⟨g4,rfl,hg4,hcap4⟩:=hown4.some_of (by simp)))
      have hb4:Below W.heap.size W w4:=(hbel2.alloc hsz2 _).grown hgr4 hszA (fun j hj=>(aan HOWN2.out hj).1)
      have HOWN4:Aside (IOwn w4 W.heap.size (.slice (some ⟨g4,0,none⟩) (ac++[q]).length c4) (ac++[q])):=hown4
      clear hown4 hold4 hgr4 hcap4
      go_roundw
      case rel=>exact⟨n+1,ac++[q],g4,(ac++[q]).length,c4,by omega,by simp,by simp,HOWN4,HK2,by simp;omega,hb4⟩
      case measure=>simp only[intOf];omega
    ·have HK3:Hid ((ac++(ps.drop (k+1)).flatten).take most=R):=by
      show _=_
      rw[←HK.out,List.drop_of_length_le (show p.length≤n by omega),List.append_nil]
     clear HK
     go_wp2_with fail
     go_roundw
     case rel=>exact⟨k+1,ac,gg2,ac.length,cc2,by omega,by simp,by simp,HOWN,HK3,hac,hbel2⟩
     case measure=>simp only[intOf];omega
  ·have hRR:R=acc:=by rw[←HK.out,List.drop_of_length_le (by omega),List.flatten_nil,List.append_nil,List.take_of_length_le hacc]
   clear HK
   go_wp2_with fail
   try rw[Exit.noGoto_ret]
   go_ret
   rw[hRR]
   exact⟨_,_,_,rfl,HOWN.out,hbel⟩
def ach (E:List Ent)(q:List Int):Bool:=(aep E q).isSome
theorem a5h (T me ml n₀:Nat)(val:List Int→Value)(E:List Ent)(v:Value)(zs:List Int)(w:World)(ht:TabAt w T me ml val E)(hn₀:n₀≤w.heap.size)(hin:Ints n₀ w v zs)(hll:zs.length≤4611686018427387904):
  Calls Tryz.prog 106 #[.pointer (some ⟨T,0,none⟩),v] w fun e w'=> ∃u,e=.returned (.tuple #[u,.bool (ach E zs)])∧Below w.heap.size w w':=by
 refine(avv T me ml n₀ val E v zs w ht hn₀ hin hll).mono ?_
 rintro e w' ⟨hb,hm⟩
 unfold ach
 cases hf:aep E zs with
 | none=>rw[hf] at hm;exact⟨_,hm,hb⟩
 | some l=>rw[hf] at hm;obtain⟨a,n,c,rfl,_⟩:=hm;exact⟨_,rfl,hb⟩
set_option maxHeartbeats 4000000 in
set_option maxRecDepth 20000 in
theorem apw {w₁:World}{bd T B g off cap me ml:Nat}{val:List Int→Value}{E:List Ent}{x:Int}{t:List Int}{ps:List (List Int)}{W:World}(hk:MWk w₁ bd T B g off cap ((x::t)::ps) W)(ht:TabAt w₁ T me ml val E)(hx:InI x)
  (hl:((x::t)::ps).length≤4611686018427387904) (hpl: ∀p∈(x::t)::ps,p.length≤4611686018427387904) (hm8:ab0 E x≤8):
  Calls Tryz.prog 175 #[.pointer (some ⟨B,0,none⟩)] W fun e W'=> ∃n b gr k c,e=.returned (.tuple #[.slice (some ⟨gr,0,none⟩) k c,.bool b])∧n=abz (ach E) ((x::t)::ps).flatten (min (max 1 (ab0 E x)) ((x::t)::ps).flatten.length)∧b=decide (n≠0)∧IOwn W' W.heap.size (.slice (some ⟨gr,0,none⟩) k c) (((x::t)::ps).flatten.take (if n=0 then 1 else n))∧Below W.heap.size W W':=by
 obtain⟨c0,c1,c2⟩:=hk.cells
 obtain⟨pb,po,c,d0,d1,d2⟩:=hk.piece (j:=0) (by simp)
 simp only[List.getElem_cons_zero,Nat.add_zero] at d0 d1 d2
 have d3:=d2.2 0 (by simp)
 simp only[List.getElem?_cons_zero,Option.getD_some,Nat.add_zero] at d3
 have htw: ∀W',Below W.heap.size W W'→TabAt W' T me ml val E:=fun W' h=>ht.below (hk.below.trans (h.mono hk.below.size))
 obtain⟨M,hM⟩: ∃M,M=max 1 (ab0 E x):=⟨_,rfl⟩
 have hMi:max (1:Int) ((ab0 E x:Nat):Int)=(M:Int):=by omega
 have hM8:1≤M∧M≤8:=by omega
 have HL:Hid (∀W',Below W.heap.size W W'→Calls Tryz.prog 209 #[.pointer (some ⟨T,0,none⟩),.int .i64 x] W' fun e w'=>e=.returned (.int .i64 (ab0 E x:Int))∧W'=w'):=fun W' h=>alk T me ml val E x hx W' (htw W' h)
 have HF:Hid (∀W',Below W.heap.size W W'→Calls Tryz.prog 208 #[.pointer (some ⟨B,0,none⟩),.int .i64 M] W' fun e W2=> ∃gr k c,e=.returned (.slice (some ⟨gr,0,none⟩) k c)∧IOwn W2 W.heap.size (.slice (some ⟨gr,0,none⟩) k c) (((x::t)::ps).flatten.take M)∧Below W.heap.size W W2):=fun W' h=>(a0u (hk.go h) hl hpl M hM8.2).mono (by
  rintro e W2 ⟨gr,k,c,e1,e2,e3⟩
  exact⟨gr,k,c,e1,e2.mono h.size,h.trans (e3.mono h.size)⟩)
 rw[←hM]
 clear hM
 generalize ab0 E x=LL at*
 have hbz:Below W.heap.size W W.drew:=(Below.refl _ W).drew
 have HTW:Hid _:=htw
 clear htw
 have hlpos:1≤((x::t)::ps).flatten.length:=by simp
 generalize ((x::t)::ps).flatten=l at HF hlpos⊢
 go_enter Tryz.func175,Tryz.ntmps175
 go_upto_region 1 with fail
 go_cut [4] from 8 to 23 (fun v wx=> ∃gr kr cr,v=.slice (some ⟨gr,0,none⟩) kr cr∧Aside (IOwn wx W.heap.size (.slice (some ⟨gr,0,none⟩) kr cr) (l.take M))∧Below W.heap.size W wx)
 case first=>
  go_region_with (first | (go_at_call 209;with_reducible refine(HL.out _ (by assumption)).mono ?_;rintro e w2 ⟨rfl,rfl⟩) | (go_at_call 208;with_reducible refine(HF.out _ (by assumption)).mono ?_;rintro e w3 ⟨gr,kr,cr,rfl,hown3,hb3⟩))
  all_goals
   go_wp2_with fail
   go_meet
   exact⟨gr,kr,cr,rfl,hown3,hb3⟩
 case rest=>
  obtain⟨gr,kr,cr,rfl,HOWN,hb3⟩:=hcut
  have hkr:=HOWN.out.form1
  rw[List.length_take] at hkr
  have HKR:Hid (kr=min M l.length):=hkr
  have hkr1:1≤kr∧kr≤8:=by omega
  clear hkr HL HF
  go_wp2_with fail
  go_loopw [5] (fun nv wr=> ∃k:Nat,k≤kr∧nv=.int .i64 k∧Hid (abz (ach E) l k=abz (ach E) l kr)∧Aside (IOwn wr W.heap.size (.slice (some ⟨gr,0,none⟩) kr cr) (l.take M))∧Below W.heap.size W wr) (fun nv _=>(intOf nv).toNat)
  case atStart=>exact⟨kr,Nat.le_refl _,rfl,rfl,HOWN,hb3⟩
  case round=>
   clear HOWN hb3
   obtain⟨k,hk1,rfl,HF,HOWN,hbr⟩:=hrel
   have htr:=HTW.out _ hbr
   have r1:wr.cell? ⟨B,1,none⟩=some (.pointer (some ⟨T,0,none⟩)):=(hbr.cell (p:=⟨B,1,none⟩) hk.blk.lt).trans c1
   cases k with
   | zero=>
    have h0:abz (ach E) l kr=0:=HF.out.symm
    have hfin:IOwn wr W.heap.size (.slice (some ⟨gr,0,none⟩) 1 cr) (l.take 1):=by
     have:=HOWN.out.take (m:=1) (by rw[List.length_take];omega)
     rwa [List.take_take,Nat.min_eq_left hM8.1] at this
    obtain⟨hcap1,hcap2⟩:1≤kr∧kr≤cr:=⟨hkr1.1,by
     rcases HOWN.out.form with ⟨e,_⟩ | ⟨g',cp,e,_,_,hle,_⟩
     ·cases e
     ·cases e;rw[List.length_take,←HKR.out] at hle;exact hle⟩
    go_wp2_with fail
    go_ret2
    exact⟨0,false,gr,1,cr,rfl,by rw[←HKR.out];exact h0.symm,by simp,hfin,hbr⟩
   | succ k=>
    have hown:=HOWN.out.take (m:=k+1) (by rw[List.length_take,←HKR.out];exact hk1)
    rw[List.take_take,Nat.min_eq_left (show k+1≤M by have:=HKR.out;omega)] at hown
    have hcap2:kr≤cr:=by
     rcases HOWN.out.form with ⟨e,_⟩ | ⟨g',cp,e,_,_,hle,_⟩
     ·cases e
     ·cases e;rw[List.length_take,←HKR.out] at hle;exact hle
    have hlen:(l.take (k+1)).length=k+1:=by rw[List.length_take];have:=HKR.out;omega
    have HFD:Hid (∀n,Calls Tryz.prog 106 #[.pointer (some ⟨T,0,none⟩),.slice (some ⟨gr,0,none⟩) (k+1) cr] (wr.drewN n) fun e w'=> ∃u,e=.returned (.tuple #[u,.bool (ach E (l.take (k+1)))])∧Below (wr.drewN n).heap.size (wr.drewN n) w'):=fun n=>a5h T me ml _ val E _ (l.take (k+1)) (wr.drewN n) (htr.below (ac3 _ _)) (Nat.le_refl _) (IOwn.ints (aad hown (ac3 _ _))) (by omega)
    have hfd1:=HFD.out 1
    generalize hfb:ach E (l.take (k+1))=fb at HFD hfd1
    have HFB:Hid (ach E (l.take (k+1))=fb):=hfb
    clear hfb
    have h1:wr.drewN 1=wr.drew:=rfl
    rw[h1] at hfd1
    go_upto_region 5 with fail
    go_cut [6,7] from 26 to 44 (fun _ v wx=>v=.bool fb∧Aside (Below wr.heap.size wr wx))
    case first=>
     go_region_with (first | (go_at_call 106;with_reducible refine hfd1.mono ?_;rintro e w2 ⟨u,rfl,hb2⟩))
     all_goals
      go_wp2_with fail
      go_meet
      exact⟨rfl,(Below.refl _ wr).drew.trans hb2⟩
    case rest=>
     obtain⟨rfl,HB⟩:=hcut
     have hbc:Below W.heap.size W wc:=hbr.trans (HB.out.mono hbr.size)
     have HOW2:Aside (IOwn wc W.heap.size (.slice (some ⟨gr,0,none⟩) kr cr) (l.take M)):=aad HOWN.out HB.out
     have HOW3:Aside (IOwn wc W.heap.size (.slice (some ⟨gr,0,none⟩) (k+1) cr) (l.take (k+1))):=aad hown HB.out
     clear HFD hfd1 HOWN hown HB
     cases fb with
     | true=>
      have hfn:abz (ach E) l kr=k+1:=by rw[←HF.out,abz,HFB.out];rfl
      go_wp2_with fail
      go_ret2
      exact⟨k+1,true,gr,k+1,cr,rfl,by rw[←HKR.out];exact hfn.symm,by simp,by simpa using HOW3.out,hbc⟩
     | false=>
      have HF2:Hid (abz (ach E) l k=abz (ach E) l kr):=by
       show _=_
       rw[←HF.out,abz,HFB.out]
       try rfl
      go_wp2_with fail
      go_roundw
      case rel=>exact⟨k,by omega,by simp,HF2,HOW2,hbc⟩
      case measure=>simp only[intOf];omega
end Go.Proofs.YtfhpgmlfgjfknaaGreatDoor
