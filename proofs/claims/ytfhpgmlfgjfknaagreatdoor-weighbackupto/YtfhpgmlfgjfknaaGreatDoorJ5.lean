/- Contracts and lemmas (nothing is claimed here). -/
import Derived.Test.YtfhpgmlfgjfknaaGreatDoorJ4
namespace Go.Proofs.YtfhpgmlfgjfknaaGreatDoor
open Go.RowKit Go.Vf Go.Maps
structure WM (w:World)(base bt bl n1 n2:Nat)(S:TS)(lp:Bool)(done:List Int):Prop where
 met:MapAt w bt (n1+done.length) (ajw (aex S.met done ab4))
 loops:MapAt w bl (n2+done.length) (ajw (if lp then aex S.loops done 1 else S.loops))
theorem ak1 (f:Int→Int)(l:List Int)(x v:Int):aex f (l++[x]) v=upd (aex f l v) x v:=by simp[aex]
structure Two (w w':World)(b1 b2:Nat):Prop where
 os:w'.os=w.os
 tape:w'.tape=w.tape
 output:w'.output=w.output
 size:w'.heap.size=w.heap.size
 block: ∀k,k<w.heap.size→k≠b1→k≠b2→w'.heap[k]? =w.heap[k]?
theorem Two.refl (w:World)(b1 b2:Nat):Two w w b1 b2:=⟨rfl,rfl,rfl,rfl,fun _ _ _ _=>rfl⟩
theorem Two.step {w w1 w2:World}{b1 b2:Nat}{row:Nat}(h:Two w w1 b1 b2)(hg:w1.grownBy w2 (some row))(hs:w2.heap.size=w1.heap.size)(hr:row=b1∨row=b2):Two w w2 b1 b2:=
 ⟨hg.os.trans h.os,hg.tape.trans h.tape,hg.output.trans h.output,hs.trans h.size,fun k hk h1 h2=>(hg.block k (by rw[h.size];exact hk) (fun e=>by
  have e':k=row:=by simpa using e
  rcases hr with hr | hr
  ·exact h1 (e'.trans hr)
  ·exact h2 (e'.trans hr))).trans (h.block k hk h1 h2)⟩
theorem Two.below {w w':World}{b1 b2 base:Nat}(h:Two w w' b1 b2)(h1:base≤b1)(h2:base≤b2)(hb:base≤w.heap.size):Below base w w':=
 ⟨h.os,h.tape,h.output,by rw[h.size];exact Nat.le_refl _,fun k hk=>h.block k (by omega) (by omega) (by omega)⟩
theorem Two.blk {w w':World}{b1 b2 b:Nat}{t:TypeId}{cs:Array Value}(h:Two w w' b1 b2)(hb:Blk w b t cs)(h1:b≠b1)(h2:b≠b2):Blk w' b t cs:=(h.block b hb.lt h1 h2).trans hb
theorem Two.own {w w':World}{b1 b2 n1 n2:Nat}{f1 f2:Int→Option Value}{base:Nat}{e:TypeId}{size:Nat}{v:Value}{k:Nat}{xs:List Value}(h:Two w w' b1 b2)(ho:w.ownsRow base e size v k xs)(h1:MapAt w b1 n1 f1)(h2:MapAt w b2 n2 f2):w'.ownsRow base e size v k xs:=by
 refine⟨ho.1,?_⟩
 rcases ho.2 with hn | ⟨g,cap,cur,rfl,hb,hg,rest⟩
 ·exact .inl hn
 ·exact .inr ⟨g,cap,cur,rfl,hb,(h.block g (Array.getElem?_eq_some_iff.1 hg).1 (aaq hg h1) (aaq hg h2)).trans hg,rest⟩
theorem IOwn.front {w:World}{base g n cap:Nat}{zs:List Int}(h:IOwn w base (.slice (some ⟨g,0,none⟩) n cap) zs)(k:Nat)(hk:k≤zs.length):IOwn w base (.slice (some ⟨g,0,none⟩) k cap) (zs.take k):=by
 obtain⟨h1,h2⟩:=h
 rcases h2 with ⟨h2,_⟩ | ⟨g',cap',cur,e1,hb,hg,hc1,hc2,hc3,hc4⟩
 ·cases h2
 ·simp only[Value.slice.injEq,Option.some.injEq,Addr.mk.injEq] at e1
  obtain⟨⟨rfl,_⟩,rfl,rfl⟩:=e1
  have hl:(zs.take k).length=k:=by simp;omega
  unfold IOwn
  rw[hl]
  refine⟨by simp;omega,.inr ⟨g,cap,cur,rfl,hb,hg,by omega,hc2,hc3,?_⟩⟩
  rw[List.map_take,←hc4,List.take_take,Nat.mul_one,Nat.mul_one,Nat.min_eq_left hk]
theorem WK.settled {w wr w3:World}{base bw bm bt bl g cap:Nat}{vr vr':Value}{S:TS}{G:Int→List Int}{frm:Nat}(h:WK w base bw bm bt bl (.slice (some ⟨g,0,none⟩) S.opn.length cap) vr S)(hfrm:frm<S.opn.length)
  (h2:Two w wr bt bl) (hm:WM wr base bt bl (S.count.toNat+S.ord.length) S.ord.length S (ad8 G (S.opn.drop frm)) (S.opn.drop frm))
  (ho:IOwn w3 base vr' (S.ord++S.opn.drop frm)) (hg:wr.grownBy w3 vr.ownBlock) (hat:vr'.ownBlock=vr.ownBlock∨vr'.ownBlock=some wr.heap.size):
  (Blk w3 bw 137 #[.map (some bm),.map (some bt),.int .i64 S.count,.slice (some ⟨g,0,none⟩) S.opn.length cap,vr,.map (some bl)])∧
  WK ((w3.setCell ⟨bw,4,none⟩ vr').setCell ⟨bw,3,none⟩ (.slice (some ⟨g,0,none⟩) frm cap)) base bw bm bt bl (.slice (some ⟨g,0,none⟩) frm cap) vr' (ac0 G S frm)∧
  Below base w ((w3.setCell ⟨bw,4,none⟩ vr').setCell ⟨bw,3,none⟩ (.slice (some ⟨g,0,none⟩) frm cap)):=by
 have hordR:=h2.own h.ord h.met h.loops
 have hopnR:=h2.own h.opn h.met h.loops
 have hblkR:=h2.blk h.blk (aaq h.blk h.met) (aaq h.blk h.loops)
 have hblk3:Blk w3 bw 137 #[.map (some bm),.map (some bt),.int .i64 S.count,.slice (some ⟨g,0,none⟩) S.opn.length cap,vr,.map (some bl)]:=(hg.block bw hblkR.lt (aa9 hordR hblkR (by decide))).trans hblkR
 have hsep:(Value.slice (some ⟨g,0,none⟩) S.opn.length cap).ownBlock≠vr.ownBlock:=h.sep.resolve_left (by simp[Value.ownBlock])
 have hopn3:IOwn w3 base (.slice (some ⟨g,0,none⟩) S.opn.length cap) S.opn:=World.ownsRow.kept hopnR hg (.inr hsep)
 have hglt:g<wr.heap.size:=(hopnR.lt g rfl).2
 have hmet3:MapAt w3 bt _ _:=afm hordR hm.met hg
 have hlo3:MapAt w3 bl _ _:=afm hordR hm.loops hg
 have own2: ∀ {v:Value} {zs:List Int},IOwn w3 base v zs→IOwn ((w3.setCell ⟨bw,4,none⟩ vr').setCell ⟨bw,3,none⟩ (.slice (some ⟨g,0,none⟩) frm cap)) base v zs:=fun {v zs} h1=>by
  have h4:=hblk3.set 4 vr'
  have h5:IOwn (w3.setCell ⟨bw,4,none⟩ vr') base v zs:=ownsRow_setCell_other h1 (a:=⟨bw,4,none⟩) (fun e=>aa9 h1 hblk3 (by decide) e.symm) _
  exact ownsRow_setCell_other h5 (a:=⟨bw,3,none⟩) (fun e=>aa9 h5 h4 (by decide) e.symm) _
 have map2: ∀ {b n:Nat} {f:Int→Option Value},MapAt w3 b n f→MapAt ((w3.setCell ⟨bw,4,none⟩ vr').setCell ⟨bw,3,none⟩ (.slice (some ⟨g,0,none⟩) frm cap)) b n f:=fun {b n f} h1=>
  (h1.setCell (a:=⟨bw,4,none⟩) (fun e=>aaq hblk3 h1 e.symm) _).setCell (a:=⟨bw,3,none⟩) (fun e=>aaq hblk3 h1 e.symm) _
 have hl:(S.opn.drop frm).length+frm=S.opn.length:=by simp;omega
 have hcnt:=h.cnt
 refine⟨hblk3,⟨?_,h.gw,h.gt,h.gl,h.ne,?_,?_,?_,?_,own2 ho,?_,?_,?_⟩,?_⟩
 ·have:=(hblk3.set 4 vr').set 3 (.slice (some ⟨g,0,none⟩) frm cap)
  simpa[Blk,ac0] using this
 ·have h1:=hg.size;have h3:=h2.size;have h4:=h.sz;simp;omega
 ·have:=map2 hmet3
  refine MapAt.mono this ?_
  show S.count.toNat+S.ord.length+(S.opn.drop frm).length≤S.count.toNat+(S.ord++S.opn.drop frm).length
  rw[List.length_append];omega
 ·have:=map2 hlo3
  refine MapAt.mono this ?_
  show S.ord.length+(S.opn.drop frm).length≤(S.ord++S.opn.drop frm).length
  rw[List.length_append];exact Nat.le_refl _
 ·exact own2 (hopn3.front frm (by omega))
 ·right
  rcases hat with e | e
  ·rw[e];exact hsep
  ·rw[e];simp[Value.ownBlock];omega
 ·show 0≤S.count∧S.count≤1000000∧(((S.opn.take frm).length+(S.ord++S.opn.drop frm).length:Nat):Int)≤S.count
  rw[List.length_append,List.length_take]
  omega
 ·exact⟨fun x hx=>h.ins.1 x (List.mem_of_mem_take hx),fun x hx=>by
   rcases List.mem_append.1 hx with hx | hx
   ·exact h.ins.2 x hx
   ·exact h.ins.1 x (List.mem_of_mem_drop hx)⟩
 ·have h1:Below base w w3:=(h2.below h.gt h.gl h.sz).grown hg (by rw[h2.size];exact h.sz) (fun j hj=>(aan hordR hj).1)
  exact(h1.setCell (p:=⟨bw,4,none⟩) h.gw _).setCell (p:=⟨bw,3,none⟩) h.gw _
set_option maxHeartbeats 4000000 in
set_option maxRecDepth 20000 in
theorem awm (base bw bm bt bl n:Nat)(vo vr:Value)(pv:Int→Value)(L:List Mk)(S:TS)(frm:Nat)(w:World)(hfrm:frm<S.opn.length)(hwk:WK w base bw bm bt bl vo vr S)(hmd:MD w base bm n pv L):
  Calls Tryz.prog 153 #[.pointer (some ⟨bw,0,none⟩),.int .i64 (frm:Int)] w fun e w'=>e=.returned (.tuple #[])∧ ∃vo' vr',WK w' base bw bm bt bl vo' vr' (ac0 (aab L) S frm)∧Below base w w':=by
 have hlen:S.opn.length≤1000000:=by have:=hwk.cnt;omega
 rcases hwk.opn.form with ⟨_,h0⟩ | ⟨g,cap,rfl,hbg,hglt,hcap,hcells,hfr⟩
 ·rw[h0] at hfrm;simp at hfrm
 have b0:=hwk.blk.cell 0
 have b1:=hwk.blk.cell 1
 have b3:=hwk.blk.cell 3
 have b4:=hwk.blk.cell 4
 have b5:=hwk.blk.cell 5
 simp only[List.getElem?_toArray,List.getElem?_cons_zero,List.getElem?_cons_succ] at b0 b1 b3 b4 b5
 have hk1:(frm:Int)≤(S.opn.length:Int):=by omega
 have hk2:(frm:Int)≤(cap:Int):=by omega
 have hk3:(0:Int)≤(frm:Int):=by omega
 have hcf: ¬cap=frm:=by omega
 go_enter Tryz.func153,Tryz.ntmps153
 go_wp2_with fail
 go_cut [5] from 14 (fun v wx=>v=.bool (ad8 (aab L) (S.opn.drop frm))∧Below w.heap.size w wx)
 case first=>
  by_cases hm:1<S.opn.length-frm
  ·have hd:decide ((1:Int)<((S.opn.length-frm:Nat):Int))=true:=by simp;omega
   go_quiet (fail)
   go_wp2
   go_meet
   case rel=>
    refine⟨?_,aby _ _ _⟩
    simp[ad8,hm]
  ·have hm1:S.opn.length-frm=1:=by omega
   have hd:decide ((1:Int)<((S.opn.length-frm:Nat):Int))=false:=by simp;omega
   have hc0:=hcells frm hfrm
   have hp:S.opn[frm]?.getD 0=S.opn[frm]:=by simp[List.getElem?_eq_getElem hfrm]
   rw[hp] at hc0
   obtain⟨c,a,k,cp,hl,hints,hk,hk2',_⟩:=hmd.look (hwk.ins.1 _ (List.getElem_mem hfrm))
   have hdrop:S.opn.drop frm=[S.opn[frm]]:=by
    rw[List.drop_eq_getElem_cons hfrm,List.drop_of_length_le (by omega)]
   generalize hq:S.opn[frm]=q at hc0 hl hints hdrop hk
   have hLl:(aab L q).length≤131072:=by omega
   clear hk
   have hf1:=a5j c (.slice a k cp) (.slice none 0 0)
   have hi0:(0:Int)<((S.opn.length-frm:Nat):Int):=by omega
   have hl': ∀j,(Instr.lookup 89 (.map (some bm)) (.int .i64 q) false).run Tryz.prog (w.drewN j)=.ok (ae5 c (.slice a k cp) (.slice none 0 0)) (w.drewN j):=fun j=>hl _ rfl
   go_quiet ((go_at_call 178;exact Calls.quiet_of_same (art (n₀:=base) a k cp (aab L q) q _ hints hLl)))
   go_wp2
   go_meet
   case rel=>
    refine⟨?_,aby _ _ _⟩
    rw[hdrop]
    simp[ad8]
 case rest=>
  obtain⟨rfl,hbc⟩:=hcut
  have hwc:=hwk.below hbc
  have hbcB:Below base w wc:=hbc.mono hwk.sz
  have hWW:=fun(wr w3:World) (vr':Value)=>WK.settled (w:=wc) (wr:=wr) (w3:=w3) (vr':=vr') (G:=aab L) hwc hfrm
  have HW:Hid (∀(wr w3:World) (vr':Value),Two wc wr bt bl→WM wr base bt bl (S.count.toNat+S.ord.length) S.ord.length S (ad8 (aab L) (S.opn.drop frm)) (S.opn.drop frm)→IOwn w3 base vr' (S.ord++S.opn.drop frm)→wr.grownBy w3 vr.ownBlock→(vr'.ownBlock=vr.ownBlock∨vr'.ownBlock=some wr.heap.size)→_):=hWW
  clear hWW
  have hmt:=hwc.met
  have hntl:=hwc.ne
  have hlo:=hwc.loops
  have hor:=hwc.ord
  have hblc:=hwc.blk
  have hop:=hwc.opn
  have hins:=hwc.ins.1
  have hszc:=hwc.sz
  have hcnt:=hwc.cnt
  obtain⟨av,cv,rfl⟩:=aax hor
  generalize hlp:ad8 (aab L) (S.opn.drop frm)=lp
  rw[hlp] at HW
  clear b0 b1 b3 b4 b5 hwk hmd hcells hfr hwc hlp
  obtain⟨gr,hgr⟩: ∃gr,gr=S.opn.drop frm:=⟨_,rfl⟩
  have hgl:gr.length=S.opn.length-frm:=by rw[hgr];simp
  have hgi: ∀x∈gr,InI x:=fun x hx=>hins x (List.mem_of_mem_drop (hgr▸hx))
  rw[←hgr] at HW
  rw[←hgl]
  go_wp2_with fail
  go_loopw [34] (fun i wr=> ∃k:Nat,k≤gr.length∧i=.int .i64 k∧WM wr base bt bl (S.count.toNat+S.ord.length) S.ord.length S lp (gr.take k)∧Two wc wr bt bl) (fun i _=>gr.length-(intOf i).toNat)
  case atStart=>exact⟨0,by omega,rfl,⟨by simpa[aex] using hmt,by simpa[aex] using hlo⟩,Two.refl _ _ _⟩
  case round=>
   obtain⟨k,hk,rfl,hwm,htwo⟩:=hrel
   have hblr:=htwo.blk hblc (aaq hblc hmt) (aaq hblc hlo)
   have b1:wr.cell? ⟨bw,1,none⟩=some (.map (some bt)):=hblr.cell 1
   have b5:wr.cell? ⟨bw,5,none⟩=some (.map (some bl)):=hblr.cell 5
   have hopr:=htwo.own hop hmt hlo
   rcases IOwn.form (zs:=S.opn) hopr with ⟨hbad,_⟩ | ⟨g',cap',he,hbg',hglt',hcap',hcells,hfr⟩
   ·cases hbad
   simp only[Value.slice.injEq,Option.some.injEq,Addr.mk.injEq] at he
   obtain⟨⟨rfl,_⟩,_,rfl⟩:=he
   by_cases hlt:k<gr.length
   ·have hx:gr[k]=S.opn[frm+k]?.getD 0:=by
     simp only[hgr,List.getElem_drop]
     rw[List.getElem?_eq_getElem (by omega)];rfl
    have hck:wr.cell? ⟨g,frm+k,none⟩=some (.int .i64 gr[k]):=by rw[hcells (frm+k) (by omega),hx]
    have hxi:=hgi gr[k] (List.getElem_mem hlt)
    have htk:gr.take (k+1)=gr.take k++[gr[k]]:=List.take_succ_eq_append_getElem hlt
    have hlk:(gr.take k).length=k:=by simp;omega
    generalize gr[k]=x at hck hxi htk
    obtain⟨w4,hup4,hm4,hg4,hs4⟩:=hwm.met.update Tryz.underlying116 (by unfold maxLen;omega) hxi (.int .i64 9223372036854775807)
    rw[alv _ _ _ (by decide),←ak1,←htk] at hm4
    have ht4:Two wc w4 bt bl:=htwo.step hg4 hs4 (.inl rfl)
    have hlo4:MapAt w4 bl _ _:=hwm.loops.kept hg4 (fun e=>hntl (by simpa using e.symm))
    have hbl4:=ht4.blk hblc (aaq hblc hmt) (aaq hblc hlo)
    have q1:w4.cell? ⟨bw,5,none⟩=some (.map (some bl)):=hbl4.cell 5
    clear hcells hopr hblr
    cases lp with
    | false=>
     go_wp2_with fail
     go_roundw
     case rel=>exact⟨k+1,by omega,by simp,⟨MapAt.mono hm4 (by rw[htk];simp;try omega),MapAt.mono (by simpa using hlo4) (by rw[htk];simp;try omega)⟩,ht4⟩
     case measure=>simp only[intOf];omega
    | true=>
     obtain⟨w5,hup5,hm5,hg5,hs5⟩:=hlo4.update Tryz.underlying116 (by unfold maxLen;omega) hxi (.int .i64 1)
     simp only[if_true] at hm5
     rw[alv _ _ _ (by decide),←ak1,←htk] at hm5
     have ht5:Two wc w5 bt bl:=ht4.step hg5 hs5 (.inr rfl)
     have hmt5:MapAt w5 bt _ _:=hm4.kept hg5 (fun e=>hntl (by simpa using e))
     go_wp2_with fail
     go_roundw
     case rel=>exact⟨k+1,by omega,by simp,⟨MapAt.mono hmt5 (by rw[htk];simp;try omega),MapAt.mono (by simpa using hm5) (by rw[htk];simp;try omega)⟩,ht5⟩
     case measure=>simp only[intOf];omega
   ·have hk':gr.take k=gr:=List.take_of_length_le (by omega)
    rw[hk'] at hwm
    have b3:wr.cell? ⟨bw,3,none⟩=some (.slice (some ⟨g,0,none⟩) S.opn.length cap):=hblr.cell 3
    have b4:wr.cell? ⟨bw,4,none⟩=some (.slice av S.ord.length cv):=hblr.cell 4
    have HC: ∀j,j<gr.length→wr.cell? ((⟨g,frm,none⟩:Addr).add j)=some (.int .i64 (gr[j]?.getD 0)):=fun j hj=>by
     rw[show (⟨g,frm,none⟩:Addr).add j=⟨g,frm+j,none⟩ by simp[Addr.add],hcells (frm+j) (by omega),hgr,List.getElem?_drop]
    have HCH:Hid (∀j,j<gr.length→wr.cell? ((⟨g,frm,none⟩:Addr).add j)=some (.int .i64 (gr[j]?.getD 0))):=HC
    have hordR:=htwo.own hor hmt hlo
    have hszr:base≤wr.heap.size:=by rw[htwo.size];exact hszc
    clear HC hcells hfr
    have hsl4:S.ord.length+gr.length≤1099511627776:=by omega
    go_wp2_with (first | (at_builtin;refine aao rfl _ _ rfl base _ S.ord rfl hordR gr ⟨g,frm,none⟩ _ rfl HCH.out hsl4 hszr ?_;intro a3 c3 w3 hown3 hgr3 _ hat3;obtain⟨y1,y2,y3⟩:=HW.out wr w3 _ htwo hwm hown3 hgr3 hat3;have z4:w3.cell? ⟨bw,4,none⟩=some (.slice av S.ord.length cv):=y1.cell 4;have z3:w3.cell? ⟨bw,3,none⟩=some (.slice (some ⟨g,0,none⟩) S.opn.length cap):=y1.cell 3;have zf4:=y1.frozen 4;have zf3:=y1.frozen 3))
    go_end0
    rw[hgl] at y2 y3
    exact⟨rfl,_,_,y2,hbcB.trans y3⟩
theorem WK.met1 {w:World}{base bw bm bt bl:Nat}{vo vr:Value}{S:TS}(h:WK w base bw bm bt bl vo vr S)(c:Int):Blk (w.setCell ⟨bw,2,none⟩ (.int .i64 c)) bw 137 #[.map (some bm),.map (some bt),.int .i64 c,vo,vr,.map (some bl)]∧
  MapAt (w.setCell ⟨bw,2,none⟩ (.int .i64 c)) bt (S.count.toNat+S.ord.length) (ajw S.met):=by
 refine⟨by simpa[Blk] using h.blk.set 2 (.int .i64 c),h.met.setCell (a:=⟨bw,2,none⟩) (fun e=>aaq h.blk h.met e.symm) _⟩
theorem WK.met2 {w w2:World}{base bw bm bt bl:Nat}{vo vr:Value}{S:TS}{p:Int}(h:WK w base bw bm bt bl vo vr S)(hc:S.count<1000000)
  (hm2:MapAt w2 bt (S.count.toNat+S.ord.length+1) (ajw (upd S.met p (S.count+1)))) (hg2:(w.setCell ⟨bw,2,none⟩ (.int .i64 (S.count+1))).grownBy w2 (some bt)):
  WK w2 base bw bm bt bl vo vr {S with met:=upd S.met p (S.count+1),count:=S.count+1}∧Below base w w2:=by
 have hb1:Blk (w.setCell ⟨bw,2,none⟩ (.int .i64 (S.count+1))) bw 137 #[.map (some bm),.map (some bt),.int .i64 (S.count+1),vo,vr,.map (some bl)]:=(h.met1 _).1
 have hm1:=(h.met1 (S.count+1)).2
 have own1: ∀ {v:Value} {zs:List Int},IOwn w base v zs→IOwn w2 base v zs:=fun {v zs} h1=>by
  have h2:IOwn (w.setCell ⟨bw,2,none⟩ (.int .i64 (S.count+1))) base v zs:=ownsRow_setCell_other h1 (a:=⟨bw,2,none⟩) (fun e=>aa9 h1 h.blk (by decide) e.symm) _
  exact ad6 h2 hm1 hg2
 have hlo1:MapAt (w.setCell ⟨bw,2,none⟩ (.int .i64 (S.count+1))) bl S.ord.length (ajw S.loops):=h.loops.setCell (a:=⟨bw,2,none⟩) (fun e=>aaq h.blk h.loops e.symm) _
 have hcn:=h.cnt
 have hs2:=hg2.size
 simp at hs2
 refine⟨⟨(hg2.block bw hb1.lt (fun e=>aaq hb1 hm1 (by simpa using e))).trans hb1,h.gw,h.gt,h.gl,h.ne,by have:=h.sz;omega,?_,hlo1.kept hg2 (fun e=>h.ne (by simpa using e.symm)),own1 h.opn,own1 h.ord,h.sep,?_,h.ins⟩,?_⟩
 ·refine MapAt.mono hm2 ?_
  show S.count.toNat+S.ord.length+1≤(S.count+1).toNat+S.ord.length
  omega
 ·show 0≤S.count+1∧S.count+1≤1000000∧(S.opn.length+S.ord.length:Int)≤S.count+1
  omega
 ·exact((Below.refl base w).setCell (p:=⟨bw,2,none⟩) h.gw _).grown hg2 (by simpa using h.sz) (fun j hj=>by cases hj;exact h.gt)
theorem WK.start {w w4:World}{base bw bm bt bl:Nat}{vo vr vo':Value}{S:TS}{p:Int}{o:Obj}(h:WK w base bw bm bt bl vo vr S)(hp:InI p)(hc:(S.opn.length+S.ord.length+1:Int)≤S.count)
  (ho:IOwn w4 base vo' (S.opn++[p])) (hg4:(w.alloc o).grownBy w4 vo.ownBlock) (hat:vo'.ownBlock=vo.ownBlock∨vo'.ownBlock=some (w.alloc o).heap.size) (hne:vo'.ownBlock≠none):
  Blk w4 bw 137 #[.map (some bm),.map (some bt),.int .i64 S.count,vo,vr,.map (some bl)]∧
  WK (w4.setCell ⟨bw,3,none⟩ vo') base bw bm bt bl vo' vr {S with opn:=S.opn++[p]}∧Below base w (w4.setCell ⟨bw,3,none⟩ vo'):=by
 have hopa:=World.ownsRow.alloc h.opn o
 have hora:=World.ownsRow.alloc h.ord o
 have hba:Blk (w.alloc o) bw 137 #[.map (some bm),.map (some bt),.int .i64 S.count,vo,vr,.map (some bl)]:=(Below.heap_alloc w o bw h.blk.lt).trans h.blk
 have hb4:Blk w4 bw 137 #[.map (some bm),.map (some bt),.int .i64 S.count,vo,vr,.map (some bl)]:=(hg4.block bw hba.lt (aa9 hopa hba (by decide))).trans hba
 have hsep:vr.ownBlock=none∨vr.ownBlock≠vo.ownBlock:=by
  cases hr:vr.ownBlock with
  | none=>exact .inl rfl
  | some j=>
   right
   intro e
   rcases h.sep with h1 | h1
   ·rw[h1] at e;cases e
   ·exact h1 (by rw[hr,e])
 have hor4:IOwn w4 base vr S.ord:=World.ownsRow.kept hora hg4 hsep
 have own2: ∀ {v:Value} {zs:List Int},IOwn w4 base v zs→IOwn (w4.setCell ⟨bw,3,none⟩ vo') base v zs:=fun {v zs} h1=>ownsRow_setCell_other h1 (a:=⟨bw,3,none⟩) (fun e=>aa9 h1 hb4 (by decide) e.symm) _
 have map2: ∀ {b n:Nat} {f:Int→Option Value},MapAt w b n f→MapAt (w4.setCell ⟨bw,3,none⟩ vo') b n f:=fun {b n f} h1=>by
  have h2:MapAt w4 b n f:=afm hopa (h1.alloc o) hg4
  exact h2.setCell (a:=⟨bw,3,none⟩) (fun e=>aaq hb4 h2 e.symm) _
 have hcn:=h.cnt
 have hs4:=hg4.size
 simp at hs4
 refine⟨hb4,⟨?_,h.gw,h.gt,h.gl,h.ne,by have:=h.sz;simp;omega,map2 h.met,map2 h.loops,own2 ho,own2 hor4,?_,?_,?_⟩,?_⟩
 ·simpa[Blk] using hb4.set 3 vo'
 ·right
  rcases hat with e | e
  ·rw[e]
   rcases h.sep with h1 | h1
   ·rw[e] at hne;exact absurd h1 hne
   ·exact h1
  ·rw[e]
   intro e2
   have:=(World.ownsRow.lt hora _ e2.symm).2
   omega
 ·show 0≤S.count∧S.count≤1000000∧(((S.opn++[p]).length+S.ord.length:Nat):Int)≤S.count
  rw[List.length_append];simp;omega
 ·exact⟨fun x hx=>by
   rcases List.mem_append.1 hx with hx | hx
   ·exact h.ins.1 x hx
   ·simp at hx;subst hx;exact hp,h.ins.2⟩
 ·exact(((Below.refl base w).alloc h.sz o).grown hg4 (by have:=h.sz;simp;omega) (fun j hj=>(aan hopa hj).1)).setCell (p:=⟨bw,3,none⟩) h.gw _
theorem a3d {w:World}{base:Nat}{v:Value}{zs:List Int}(h:IOwn w base v zs)(hne:zs≠ []):v.ownBlock≠none:=by
 rcases h.form with ⟨_,h0⟩ | ⟨g,cap,rfl,_⟩
 ·exact absurd h0 hne
 ·simp[Value.ownBlock]
def ajg (base bw bm bt bl:Nat)(S':TS)(r:Int)(w:World)(e:Ending)(w':World):Prop:=
 e=.returned (.int .i64 r)∧ ∃vo vr,WK w' base bw bm bt bl vo vr S'∧Below base w w'
set_option maxHeartbeats 1000000 in
theorem au7 (base bw bm bt bl n k:Nat)(pv:Int→Value)(L:List Mk)
  (ih: ∀(p:Int) (S S':TS) (r:Int) (vo vr:Value) (w:World),InI p→aj7 (aab L) k p S=some (S',r)→WK w base bw bm bt bl vo vr S→MD w base bm n pv L→
   Calls Tryz.prog 113 #[.pointer (some ⟨bw,0,none⟩),.int .i64 p] w fun e w'=>ajg base bw bm bt bl S' r w e w')
  (p:Int) (S S':TS) (r:Int) (vo vr:Value) (w:World) (hp:InI p) (hv:ad4 (aab L) k p S=some (S',r)) (hwk:WK w base bw bm bt bl vo vr S) (hmd:MD w base bm n pv L):
  Calls Tryz.prog 67 #[.pointer (some ⟨bw,0,none⟩),.int .i64 p] w fun e w'=>ajg base bw bm bt bl S' r w e w':=by
 have b1:w.cell? ⟨bw,1,none⟩=some (.map (some bt)):=hwk.blk.cell 1
 have hl:=hwk.met.look Tryz.underlying116 (a7d w) hp
 rw[aq7] at hl
 unfold ad4 at hv
 by_cases hm:S.met p>0
 ·rw[if_pos hm] at hv
  simp only[Option.some.injEq,Prod.mk.injEq] at hv
  obtain⟨rfl,rfl⟩:=hv
  go_enter Tryz.func67,Tryz.ntmps67
  go_wp2_with fail
  go_ret
  exact⟨rfl,_,_,hwk,Below.refl _ _⟩
 ·rw[if_neg hm] at hv
  go_enter Tryz.func67,Tryz.ntmps67
  go_wp2_with fail
  refine(ih p S S' r vo vr w hp hv hwk hmd).mono ?_
  rintro e w2 ⟨rfl,hpost⟩
  go_wp2
  go_ret
  exact⟨rfl,hpost⟩
set_option maxHeartbeats 4000000 in
set_option maxRecDepth 20000 in
theorem ayg (base bw bm bt bl n:Nat)(pv:Int→Value)(L:List Mk): ∀(k:Nat) (p:Int) (S S':TS) (r:Int) (vo vr:Value) (w:World),InI p→aj7 (aab L) k p S=some (S',r)→WK w base bw bm bt bl vo vr S→MD w base bm n pv L→
   Calls Tryz.prog 113 #[.pointer (some ⟨bw,0,none⟩),.int .i64 p] w fun e w'=>ajg base bw bm bt bl S' r w e w':=by
 intro k
 induction k with
 | zero=>intro p S S' r vo vr w _ hv _ _;cases hv
 | succ k ih=>
  intro p S S' r vo vr w hp hv hwk hmd
  rw[ak0] at hv
  by_cases hcount:S.count<1000000
  ·rw[if_pos hcount] at hv
   have hcn:=hwk.cnt
   have hcn0:0≤S.count:=hcn.1
   obtain⟨ao,co,rfl⟩:=hwk.opn.val
   have b2:w.cell? ⟨bw,2,none⟩=some (.int .i64 S.count):=hwk.blk.cell 2
   have f2:=hwk.blk.frozen 2
   have hb1:=(hwk.met1 (S.count+1)).1
   have hm1:=(hwk.met1 (S.count+1)).2
   have q2:(w.setCell ⟨bw,2,none⟩ (.int .i64 (S.count+1))).cell? ⟨bw,2,none⟩=some (.int .i64 (S.count+1)):=hb1.cell 2
   have q3:(w.setCell ⟨bw,2,none⟩ (.int .i64 (S.count+1))).cell? ⟨bw,3,none⟩=some (.slice ao S.opn.length co):=hb1.cell 3
   have q1:(w.setCell ⟨bw,2,none⟩ (.int .i64 (S.count+1))).cell? ⟨bw,1,none⟩=some (.map (some bt)):=hb1.cell 1
   go_enter Tryz.func113,Tryz.ntmps113
   go_wp2_with fail
   generalize hW1:w.setCell ⟨bw,2,none⟩ (.int .i64 (S.count+1))=W1 at hb1 hm1 q1 q2 q3⊢
   go_quiet (fail)
   have hm1':MapAt (W1.drewN nq) bt (S.count.toNat+S.ord.length) (ajw S.met):=hm1.block rfl
   obtain⟨w2,hup2,hm2,hg2,hs2⟩:=hm1'.update Tryz.underlying116 (by unfold maxLen;omega) hp (.int .i64 (S.count+1))
   rw[alv _ _ _ (by omega)] at hm2
   obtain⟨hwk2,hbel2⟩:=hwk.met2 hcount hm2 (by rw[hW1];exact⟨hg2.os,hg2.tape,hg2.output,hg2.size,hg2.block⟩)
   have hb2:=hwk2.blk
   have r0:w2.cell? ⟨bw,0,none⟩=some (.map (some bm)):=hb2.cell 0
   have r3:w2.cell? ⟨bw,3,none⟩=some (.slice ao S.opn.length co):=hb2.cell 3
   have hop2:=hwk2.opn
   have hsz2:=hwk2.sz
   have HST:=fun(w4:World) (vo':Value)=>WK.start (w:=w2) (w4:=w4) (vo':=vo') (p:=p) (o:=.cells #[.int .i64 p] 3) hwk2 hp (by show(S.opn.length+S.ord.length+1:Int)≤S.count+1;omega)
   have HS:Hid (∀(w4:World) (vo':Value),IOwn w4 base vo' (S.opn++[p])→(w2.alloc (.cells #[.int .i64 p] 3)).grownBy w4 (Value.slice ao S.opn.length co).ownBlock→(vo'.ownBlock=(Value.slice ao S.opn.length co).ownBlock∨vo'.ownBlock=some (w2.alloc (.cells #[.int .i64 p] 3)).heap.size)→vo'.ownBlock≠none→_):=HST
   clear HST
   have hl1:S.opn.length+[p].length≤1099511627776:=by simp;omega
   have hbs:base≤(w2.alloc (.cells #[.int .i64 p] 3)).heap.size:=by simp;omega
   clear hs2 q2 q3 hm1 hm1' hb1 b2 f2 hm2 hg2
   go_wp2_with (first | (at_builtin;refine aao rfl _ _ rfl base _ S.opn rfl (World.ownsRow.alloc hop2 _) [p] ⟨w2.heap.size,0,none⟩ 1 rfl (aku p w2) hl1 hbs ?_;intro a4 c4 w4 hown4 hgr4 hnil4 hat4;obtain⟨y1,y2,y3⟩:=HS.out w4 _ hown4 hgr4 hat4 (a3d hown4 (by simp));simp only[List.length_cons,List.length_nil,Nat.zero_add] at y2 y3;obtain⟨cm,am,km,cpm,hlm,him,hkm,hkl,hqi⟩:=(hmd.below (hbel2.trans y3)).look hp;have hlm':=hlm _ rfl;have hf1:=a5j cm (.slice am km cpm) (.slice none 0 0);clear hlm;have HKM:Hid (km=(aab L p).length):=hkm;clear hkm;have z3:w4.cell? ⟨bw,3,none⟩=some (.slice ao S.opn.length co):=y1.cell 3;have zf3:=y1.frozen 3;have z0:w4.cell? ⟨bw,0,none⟩=some (.map (some bm)):=y1.cell 0))
   generalize w4.setCell ⟨bw,3,none⟩ (.slice a4 (S.opn.length+1) c4)=W5 at y2 y3 him hlm'⊢
   have y2':WK W5 base bw bm bt bl (.slice a4 (S.opn.length+1) c4) vr (acp S p):=y2
   have hbel5:=hbel2.trans y3
   have hmd5:=hmd.below hbel5
   clear y2 y1 y3 z3 zf3 z0 HS hop2 hb2 r0 r3 hup2 hwk2 hbel2 hwk hmd q1 hlm' hf1 hown4 hgr4 hnil4 hat4
   cases hpf:ag5 (ad4 (aab L) k) (aab L p) (acp S p) (S.count+1) with
   | none=>rw[hpf] at hv;cases hv
   | some q2=>
    obtain⟨S2,l2⟩:=q2
    rw[hpf] at hv
    simp only at hv
    have HP:Hid (ag5 (ad4 (aab L) k) (aab L p) (acp S p) (S.count+1)=some (S2,l2)):=hpf
    have HV:Hid ((if l2=S.count+1 then (if S.opn.length<S2.opn.length then some (ac0 (aab L) S2 S.opn.length,l2) else none) else some (S2,l2))=some (S',r)):=hv
    have HI:Hid (∀(p:Int) (S S':TS) (r:Int) (vo vr:Value) (w:World),InI p→aj7 (aab L) k p S=some (S',r)→WK w base bw bm bt bl vo vr S→MD w base bm n pv L→Calls Tryz.prog 113 #[.pointer (some ⟨bw,0,none⟩),.int .i64 p] w fun e w'=>ajg base bw bm bt bl S' r w e w'):=ih
    clear hpf hv ih hW1
    go_loopw [7,51] (fun l i wr=> ∃(j:Nat) (Sj:TS) (lj:Int) (vo vr:Value),j≤km∧i=.int .i64 j∧l=.int .i64 lj∧WK wr base bw bm bt bl vo vr Sj∧Hid (ag5 (ad4 (aab L) k) ((aab L p).drop j) Sj lj=some (S2,l2))∧Below base W5 wr) (fun _ i _=>km-(intOf i).toNat)
    case atStart=>exact⟨0,acp S p,S.count+1,_,vr,by omega,rfl,rfl,y2',by simpa using HP,Below.refl _ _⟩
    case round=>
     obtain⟨j,Sj,lj,vo,vr',hj,rfl,rfl,hwkj,HK,hbelj⟩:=hrel
     by_cases hlt:j<km
     ·have hltp:j<(aab L p).length:=by rw[←HKM.out];exact hlt
      have hd:(aab L p).drop j=(aab L p)[j]::(aab L p).drop (j+1):=List.drop_eq_getElem_cons hltp
      have himj:=him.below hbelj (Nat.le_refl _)
      obtain⟨bp,op,hao,hnk,hblt,hcell⟩:=himj.cell (fun e=>by rw[e] at hltp;simp at hltp)
      have hcj:=hcell j hltp
      rw[show (aab L p)[j]?.getD 0=(aab L p)[j] by simp[List.getElem?_eq_getElem hltp]] at hcj
      have hqI:=hqi _ (List.getElem_mem hltp)
      have hmdj:=hmd5.below hbelj
      have hKK:=HK.out
      rw[hd,ag5] at hKK
      generalize (aab L p)[j]=q at hcj hqI hKK
      subst hao
      cases hrq:ad4 (aab L) k q Sj with
      | none=>rw[hrq] at hKK;cases hKK
      | some q3=>
       obtain⟨Sq,rq⟩:=q3
       rw[hrq] at hKK
       simp only at hKK
       have HK2:Hid (ag5 (ad4 (aab L) k) ((aab L p).drop (j+1)) Sq (min lj rq)=some (S2,l2)):=hKK
       have HRQ:Hid (ad4 (aab L) k q Sj=some (Sq,rq)):=hrq
       clear hcell himj hd HK hKK hrq hltp hnk
       go_wp2_with fail
       refine(au7 base bw bm bt bl n k pv L HI.out q Sj Sq rq vo vr' _ hqI HRQ.out hwkj hmdj).mono ?_
       rintro e w6 ⟨rfl,vo6,vr6,hwk6,hbel6⟩
       by_cases hmin:lj≤rq
       ·have hm:min lj rq=lj:=Int.min_eq_left hmin
        rw[hm] at HK2
        go_wp2_with fail
        go_roundw
        case rel=>exact⟨j+1,Sq,lj,vo6,vr6,by omega,by simp,rfl,hwk6,HK2,hbelj.trans hbel6⟩
        case measure=>simp only[intOf];omega
       ·have hm:min lj rq=rq:=Int.min_eq_right (by omega)
        rw[hm] at HK2
        go_wp2_with fail
        go_roundw
        case rel=>exact⟨j+1,Sq,rq,vo6,vr6,by omega,by simp,rfl,hwk6,HK2,hbelj.trans hbel6⟩
        case measure=>simp only[intOf];omega
     ·have hjk:j=km:=by omega
      have hKK:=HK.out
      rw[List.drop_of_length_le (by rw[←HKM.out];omega),ag5] at hKK
      simp only[Option.some.injEq,Prod.mk.injEq] at hKK
      obtain⟨rfl,rfl⟩:=hKK
      have hVV:=HV.out
      have hbw:Below base w wr:=hbel5.trans hbelj
      by_cases hls:lj=S.count+1
      ·rw[if_pos hls] at hVV
       by_cases hfl:S.opn.length<Sj.opn.length
       ·rw[if_pos hfl] at hVV
        simp only[Option.some.injEq,Prod.mk.injEq] at hVV
        obtain⟨rfl,rfl⟩:=hVV
        have hmdr:=hmd5.below hbelj
        obtain⟨at_,hat⟩: ∃at_,at_=S.count+1:=⟨_,rfl⟩
        have hls':(lj==S.count+1)=true:=by simpa using hls
        clear HV HP HI HK him
        go_wp2_with fail
        refine(awm base bw bm bt bl n vo vr' pv L Sj S.opn.length _ hfl hwkj hmdr).mono ?_
        rintro e w7 ⟨rfl,vo7,vr7,hwk7,hbel7⟩
        go_wp2
        go_ret
        refine⟨?_,vo7,vr7,hwk7,hbw.trans hbel7⟩
        first | rfl | (rw[hls];rfl)
       ·rw[if_neg hfl] at hVV;cases hVV
      ·rw[if_neg hls] at hVV
       simp only[Option.some.injEq,Prod.mk.injEq] at hVV
       obtain⟨rfl,rfl⟩:=hVV
       have hls':(lj==S.count+1)=false:=by simpa using hls
       clear HV HP HI HK him
       go_wp2_with fail
       go_ret
       exact⟨rfl,vo,vr',hwkj,hbw⟩
  ·rw[if_neg hcount] at hv;cases hv
theorem awx (L:List Mk): ∀(j:Nat) (hj:j<L.length),(ac1 L)[j*2]? =some (.int .i64 L[j].point)∧(ac1 L)[j*2+1]? =some (.int .i64 L[j].line):=by
 induction L with
 | nil=>intro j hj;simp at hj
 | cons a r ih=>
  intro j hj
  cases j with
  | zero=>simp[ac1]
  | succ j=>
   have:=ih j (by simpa using hj)
   have e:ac1 (a::r)=.int .i64 a.point:: .int .i64 a.line::ac1 r:=by simp[ac1]
   rw[e,show(j+1)*2=j*2+1+1 by omega]
   simpa using this
def PL (w:World)(vp:Value)(L:List Mk):Prop:=(vp=.slice none 0 0∧L=[])∨ ∃gp cap,vp=.slice (some ⟨gp,0,none⟩) L.length cap∧gp<w.heap.size∧ ∀j (hj:j<L.length),w.cell? ⟨gp,j*2,none⟩=some (.int .i64 L[j].point)∧w.cell? ⟨gp,j*2+1,none⟩=some (.int .i64 L[j].line)
theorem PL.of {w:World}{base:Nat}{vp:Value}{L:List Mk}(h:w.ownsRow base 139 2 vp L.length (ac1 L)):PL w vp L:=by
 rcases h.2 with ⟨rfl,h0⟩ | ⟨g,cap,cur,rfl,_,hg,_,_,_,ht⟩
 ·exact .inl ⟨rfl,List.eq_nil_of_length_eq_zero h0⟩
 ·refine .inr ⟨g,cap,rfl,(Array.getElem?_eq_some_iff.1 hg).1,fun j hj=> ?_⟩
  obtain⟨h1,h2⟩:=awx L j hj
  rw[←ht] at h1 h2
  rw[List.getElem?_take_of_lt (by omega)] at h1 h2
  simp only[World.cell?,hg]
  exact⟨by simpa using h1,by simpa using h2⟩
theorem PL.below {w w':World}{vp:Value}{L:List Mk}(h:PL w vp L)(hb:Below w.heap.size w w'):PL w' vp L:=by
 rcases h with h | ⟨gp,cap,e,hlt,hc⟩
 ·exact .inl h
 ·exact .inr ⟨gp,cap,e,Nat.lt_of_lt_of_le hlt hb.size,fun j hj=>⟨(hb.cell (p:=⟨gp,j*2,none⟩) hlt).trans (hc j hj).1,(hb.cell (p:=⟨gp,j*2+1,none⟩) hlt).trans (hc j hj).2⟩⟩
theorem PL.val {w:World}{vp:Value}{L:List Mk}(h:PL w vp L): ∃a cap,vp=.slice a L.length cap:=by
 rcases h with ⟨rfl,rfl⟩ | ⟨gp,cap,rfl,_⟩
 ·exact⟨_,_,rfl⟩
 ·exact⟨_,_,rfl⟩
def akv (L:List Mk)(S:TS)(w:World)(e:Ending)(w':World):Prop:=
 Below w.heap.size w w'∧
 match L.find? (fun m=>decide (S.loops m.point>0)) with
 | some m=>e=ajt 42 m.line
 | none=> ∃a k cap,e=.returned (.slice a k cap)∧IOwn w' w.heap.size (.slice a k cap) S.ord∧S.ord.length≤1000000∧ ∀x∈S.ord,InI x
theorem a8s (w:World)(bm:Nat):WK ((((w.alloc (.map #[] 0)).alloc (.map #[] 0)).alloc (.cells #[.map (some bm),.map (some w.heap.size),.int .i64 0,.slice none 0 0,.slice none 0 0,.map (some (w.heap.size+1))] 137))) w.heap.size (w.heap.size+1+1) bm w.heap.size (w.heap.size+1) (.slice none 0 0) (.slice none 0 0) TS.empty:=by
 refine⟨?_,by omega,by omega,by omega,by omega,by simp;omega,?_,?_,IOwn.nil _ _,IOwn.nil _ _,.inl rfl,by simp[TS.empty],by simp[TS.empty]⟩
 ·have:=Blk.new ((w.alloc (.map #[] 0)).alloc (.map #[] 0)) 137 #[.map (some bm),.map (some w.heap.size),.int .i64 0,.slice none 0 0,.slice none 0 0,.map (some (w.heap.size+1))]
  simpa[TS.empty] using this
 ·exact(((MapAt.made w).alloc _).alloc _)
 ·have:=(MapAt.made (w.alloc (.map #[] 0))).alloc (.cells #[.map (some bm),.map (some w.heap.size),.int .i64 0,.slice none 0 0,.slice none 0 0,.map (some (w.heap.size+1))] 137)
  rw[show (w.alloc (.map #[] 0)).heap.size=w.heap.size+1 by simp] at this
  exact this
set_option maxHeartbeats 4000000 in
set_option maxRecDepth 20000 in
theorem amt (bm n K:Nat)(vp:Value)(pv:Int→Value)(L:List Mk)(S:TS)(w:World)(hL:L.length≤4096)(hpl:PL w vp L)(hmd:MD w w.heap.size bm n pv L)(hwalk:ajl (aab L) K (L.map Mk.point) TS.empty=some S):
  Calls Tryz.prog 34 #[.map (some bm),vp] w fun e w'=>akv L S w e w':=by
 have hmm:= @run_makeMap Tryz.prog
 have hwk0:=a8s w bm
 have hb0:Below w.heap.size w ((((w.alloc (.map #[] 0)).alloc (.map #[] 0)).alloc (.cells #[.map (some bm),.map (some w.heap.size),.int .i64 0,.slice none 0 0,.slice none 0 0,.map (some (w.heap.size+1))] 137))):=(((Below.refl _ w).alloc (Nat.le_refl _) _).alloc (by simp) _).alloc (by simp;omega) _
 obtain⟨av,cv,rfl⟩:=hpl.val
 have HWK:Hid (ajl (aab L) K (L.map Mk.point) TS.empty=some S):=hwalk
 clear hwalk
 go_enter Tryz.func34,Tryz.ntmps34
 go_wp2_with fail
 generalize (((w.alloc (.map #[] 0)).alloc (.map #[] 0)).alloc (.cells #[.map (some bm),.map (some w.heap.size),.int .i64 0,.slice none 0 0,.slice none 0 0,.map (some (w.heap.size+1))] 137))=W0 at hwk0 hb0⊢
 have hmd0:=hmd.below hb0
 clear hmd hmm
 generalize w.heap.size+1+1=bw at hwk0⊢
 generalize w.heap.size+1=bl at hwk0⊢
 go_loopw [16] (fun i wr=> ∃(k:Nat) (Sj:TS) (vo vr:Value),k≤L.length∧i=.int .i64 k∧WK wr w.heap.size bw bm w.heap.size bl vo vr Sj∧Hid (ajl (aab L) K ((L.map Mk.point).drop k) Sj=some S)∧Below w.heap.size W0 wr) (fun i _=>L.length-(intOf i).toNat)
 case atStart=>exact⟨0,TS.empty,_,_,by omega,rfl,hwk0,by simpa using HWK,Below.refl _ _⟩
 case round=>
  obtain⟨k,Sj,vo,vr,hk,rfl,hwkj,HK,hbelj⟩:=hrel
  have hplj:=hpl.below (hb0.trans hbelj)
  clear hwk0 HWK
  by_cases hlt:k<L.length
  ·rcases hplj with ⟨_,h0⟩ | ⟨gp,cap,he,hgp,hc⟩
   ·rw[h0] at hlt;simp at hlt
   simp only[Value.slice.injEq] at he
   obtain⟨rfl,_,rfl⟩:=he
   obtain⟨c0,c1⟩:=hc k hlt
   have hd:(L.map Mk.point).drop k=L[k].point::(L.map Mk.point).drop (k+1):=by
    rw[List.drop_eq_getElem_cons (by simpa using hlt)];simp
   have hpI:=(hmd0.ins L[k] (List.getElem_mem hlt)).1
   have hmdj:=hmd0.below hbelj
   have hKK:=HK.out
   rw[hd,ajl] at hKK
   generalize L[k]=mk at c0 c1 hpI hKK
   cases hrq:ad4 (aab L) K mk.point Sj with
   | none=>rw[hrq] at hKK;cases hKK
   | some q3=>
    obtain⟨Sq,rq⟩:=q3
    rw[hrq] at hKK
    simp only at hKK
    have HK2:Hid (ajl (aab L) K ((L.map Mk.point).drop (k+1)) Sq=some S):=hKK
    have hb1:=(Below.refl wr.heap.size wr).alloc (Nat.le_refl _) (.cells #[.int .i64 mk.point,.int .i64 mk.line] 139)
    have hwk1:=hwkj.below hb1
    have hmd1:=hmdj.below (hb1.mono hwkj.sz)
    have HRQ:Hid (ad4 (aab L) K mk.point Sj=some (Sq,rq)):=hrq
    clear hc hd hKK HK hrq
    go_wp2_with fail
    refine(au7 w.heap.size bw bm w.heap.size bl n K pv L (ayg w.heap.size bw bm w.heap.size bl n pv L K) mk.point Sj Sq rq vo vr _ hpI HRQ.out hwk1 hmd1).mono ?_
    rintro e w3 ⟨rfl,vo3,vr3,hwk3,hbel3⟩
    have hb3:Below w.heap.size W0 w3:=(hbelj.trans (hb1.mono hwkj.sz)).trans hbel3
    clear hmd1 hwk1 HRQ c0 c1
    go_wp2_with fail
    go_roundw
    case rel=>exact⟨k+1,Sq,vo3,vr3,by omega,by simp,hwk3,HK2,hb3⟩
    case measure=>simp only[intOf];omega
  ·have hKK:=HK.out
   rw[List.drop_of_length_le (by simp;omega),ajl] at hKK
   simp only[Option.some.injEq] at hKK
   subst hKK
   clear HK
   generalize hF:L.find? (fun m=>decide (Sj.loops m.point>0))=F
   have HF:Hid (L.find? (fun m=>decide (Sj.loops m.point>0))=F):=hF
   have hpost: ∀(e:Ending) (w':World),(Below w.heap.size w w'∧match F with
    | some m=>e=ajt 42 m.line
    | none=> ∃a k cap,e=.returned (.slice a k cap)∧IOwn w' w.heap.size (.slice a k cap) Sj.ord∧Sj.ord.length≤1000000∧ ∀x∈Sj.ord,InI x)→akv L Sj w e w':=fun e w' h=>by unfold akv;rw[hF];exact h
   have HPO:Hid (∀(e:Ending) (w':World),(Below w.heap.size w w'∧match F with
    | some m=>e=ajt 42 m.line
    | none=> ∃a k cap,e=.returned (.slice a k cap)∧IOwn w' w.heap.size (.slice a k cap) Sj.ord∧Sj.ord.length≤1000000∧ ∀x∈Sj.ord,InI x)→akv L Sj w e w'):=hpost
   clear hF hpost
   go_wp2_with fail
   go_loopw [26] (fun i wr=> ∃(k:Nat),k≤L.length∧i=.int .i64 k∧WK wr w.heap.size bw bm w.heap.size bl vo vr Sj∧Hid ((L.drop k).find? (fun m=>decide (Sj.loops m.point>0))=F)∧Below w.heap.size w wr) (fun i _=>L.length-(intOf i).toNat)
   case atStart=>exact⟨0,by omega,rfl,hwkj,by simpa using HF,hb0.trans hbelj⟩
   case round=>
    clear hwkj HF hbelj hplj
    obtain⟨k2,hk2,rfl,hwkr,HK2,hbelr⟩:=hrel
    have hplr:=hpl.below hbelr
    by_cases hlt2:k2<L.length
    ·rcases hplr with ⟨_,h0⟩ | ⟨gp,cap,he,hgp,hc⟩
     ·rw[h0] at hlt2;simp at hlt2
     simp only[Value.slice.injEq] at he
     obtain⟨rfl,_,rfl⟩:=he
     obtain⟨c0,c1⟩:=hc k2 hlt2
     have hd:L.drop k2=L[k2]::L.drop (k2+1):=List.drop_eq_getElem_cons hlt2
     have hpI:=(hmd0.ins L[k2] (List.getElem_mem hlt2)).1
     have hKK:=HK2.out
     rw[hd,List.find?_cons] at hKK
     generalize L[k2]=mk at c0 c1 hpI hKK
     have hb1:=(Below.refl wr.heap.size wr).alloc (Nat.le_refl _) (.cells #[.int .i64 mk.point,.int .i64 mk.line] 139)
     have hwk1:=hwkr.below hb1
     have b5:(wr.alloc (.cells #[.int .i64 mk.point,.int .i64 mk.line] 139)).cell? ⟨bw,5,none⟩=some (.map (some bl)):=hwk1.blk.cell 5
     have hl:=hwk1.loops.look Tryz.underlying116 (a7d _) hpI
     rw[aq7] at hl
     have hbel1:Below w.heap.size w (wr.alloc (.cells #[.int .i64 mk.point,.int .i64 mk.line] 139)):=hbelr.trans (hb1.mono hwkr.sz)
     by_cases hpos:Sj.loops mk.point>0
     ·have hFm:F=some mk:=by rw[←hKK];simp[hpos]
      clear hKK HK2 hd hc
      go_wp2_with fail
      refine⟨rfl,HPO.out _ _ ⟨hbel1,?_⟩⟩
      rw[hFm]
     ·have HK3:Hid ((L.drop (k2+1)).find? (fun m=>decide (Sj.loops m.point>0))=F):=by show _=_;rw[←hKK];simp[hpos]
      clear hKK HK2 hd hc
      go_wp2_with fail
      go_roundw
      case rel=>exact⟨k2+1,by omega,by simp,hwk1,HK3,hbel1⟩
      case measure=>simp only[intOf];omega
    ·have hFm:F=none:=by rw[←HK2.out,List.drop_of_length_le (by omega)];rfl
     have b4:=hwkr.blk.cell 4
     simp only[List.getElem?_toArray,List.getElem?_cons_zero,List.getElem?_cons_succ] at b4
     have hord:=hwkr.ord
     have hcO:=hwkr.cnt
     have hinsO:=hwkr.ins.2
     obtain⟨ar,cr,rfl⟩:=hord.val
     clear HK2
     go_wp2_with fail
     go_ret
     refine HPO.out _ _ ⟨hbelr,?_⟩
     rw[hFm]
     exact⟨_,_,_,rfl,hord,by omega,hinsO⟩
end Go.Proofs.YtfhpgmlfgjfknaaGreatDoor
