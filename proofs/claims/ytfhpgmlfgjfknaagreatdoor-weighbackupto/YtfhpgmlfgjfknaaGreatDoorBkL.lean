/- WeighBack, where what came in is of bulk at most 1048576: tables read from what tables tell tell the same, and weigh the same: the statement holds of the program, its listed tables being as their initialisers lay them. -/
import Derived.Test.YtfhpgmlfgjfknaaGreatDoorCards
import Derived.Test.YtfhpgmlfgjfknaaGreatDoorTie
import Derived.Test.YtfhpgmlfgjfknaaGreatDoorJ40
import Derived.ShutString
import Derived.ChangeOld
import Derived.Below
import Derived.Deep.DeepHandedRow
import Derived.JoinedCond
namespace Go.Proofs.YtfhpgmlfgjfknaaGreatDoor
open Go.ChangeShapes Go.WideShapes Go.ChangeAt Go.RowKit
open Go.ChangeMaps (open_string shut_string)
theorem aop:ownKnob Tryz.prog.godebug=none:=by kernel_rfl
theorem afw:laidOutB Tryz.prog=true:=by kernel_rfl
theorem aky (os:Os){H:Type}(enc:TypeId×Value→H): ∃places,DataW.whole enc Tryz.prog ((World.laidAll Tryz.prog os aq3).forCall (fun _ _=>0) ⟨#[],#[.agg #[.string ByteArray.empty,.string ByteArray.empty],.agg #[.int .i64 0,.bool false,.bool false,.string ByteArray.empty,.string ByteArray.empty,.string ByteArray.empty]],[]⟩).memory Tryz.f6.params.toList Rows.weighBackSpec.vars false (#[.agg #[.string ByteArray.empty,.string ByteArray.empty],.agg #[.int .i64 0,.bool false,.bool false,.string ByteArray.empty,.string ByteArray.empty,.string ByteArray.empty]]:Array Value).toList 8=some ([.agg [.lit (.string []),.lit (.string [])],.agg [.agg [.lit (.int .i64 0),.lit (.bool false),.lit (.bool false)],.lit (.string []),.lit (.string []),.lit (.string [])]],[],places):=
 ⟨[],by kernel_rfl⟩
set_option maxRecDepth 100000 in
theorem akj (os:Os)(started:os.Started)(H:Type)(enc:TypeId×Value→H)(F:Stop.Interp):
  ReturnsInHanded {} Tryz.checked os 6 .any ((Rows.OpenSpec.upto Rows.weighBackSpec).preRow enc Tryz.prog Tryz.f6 Rows.weighBackUptoRow.domain false Rows.weighBackUptoRow.laid) (((Rows.OpenSpec.upto Rows.weighBackSpec).at F).post enc Tryz.prog Tryz.f6 false true false false):=by
 obtain⟨places,hx⟩:=aky os enc
 have hok:Input.okWideB Tryz.checked.prog ((World.laidAll Tryz.prog os aq3).forCall (fun _ _=>0) ⟨#[],#[.agg #[.string ByteArray.empty,.string ByteArray.empty],.agg #[.int .i64 0,.bool false,.bool false,.string ByteArray.empty,.string ByteArray.empty,.string ByteArray.empty]],[]⟩) 6 ⟨#[],#[.agg #[.string ByteArray.empty,.string ByteArray.empty],.agg #[.int .i64 0,.bool false,.bool false,.string ByteArray.empty,.string ByteArray.empty,.string ByteArray.empty]],[]⟩=true:=by kernel_rfl
 refine returnsInHanded_of_row (C:=Tryz.checked) (s:=Rows.OpenSpec.upto Rows.weighBackSpec) aop started (by kernel_rfl) Tryz.func6
  ⟨World.laidAll Tryz.prog os aq3,fun _ _=>0,⟨#[],#[.agg #[.string ByteArray.empty,.string ByteArray.empty],.agg #[.int .i64 0,.bool false,.bool false,.string ByteArray.empty,.string ByteArray.empty,.string ByteArray.empty]],[]⟩,World.laidAll_os _ _ _,aq2 os _,(Input.okWide_of_okWideB (base:=0) hok).1,(Input.okWide_of_okWideB hok).2,
   OpenSpec.preRow_of_cond 8 hx (by kernel_rfl) (fun k hk=>by cases hk;kernel_rfl) (by kernel_rfl) (az7 os _),by
    simp only[Assume.holds]
    exact⟨by simp,by simp,fun _=>Modest.zero,by simp,by simp⟩⟩ ?_
 intro W base args ds gs before hval0 hW _ hcond hwt hL hS _
 have hval: ∀(j:Nat) t v,Tryz.f6.params[j]? =some t→args[j]? =some v→Value.okWide Tryz.prog W .any base t v:=hval0
 have hW':=hW
 obtain⟨p,q,hA0,hV,rfl,hfz,hnd⟩:=hW
 have hA:DataW.TrodAll enc Tryz.prog W 0 (fun _=>true) true Tryz.f6.params.toList args.toList ds p:=hA0
 rw[Tryz.params6] at hA hval
 obtain⟨v0,vs0,d0,ds0,p0,q0,hargs,rfl,rfl,h0,r0⟩:=trodAll_cons hA
 obtain⟨v1,vs1,d1,ds1,p1,q1,rfl,rfl,rfl,h1,r1⟩:=trodAll_cons r0
 obtain⟨rfl,rfl,rfl⟩:=trodAll_nil r1
 obtain rfl:args= #[v0,v1]:=by cases args;simp_all
 obtain⟨rfl,rfl⟩:=trodVars_none hV
 have k0:=h0
 have lt0: ∀x∈p0,x.block<W.heap.size:=by obtain⟨m,hm⟩:=k0;exact DataW.trod_lt m _ _ _ hm
 have k1:=h1
 have lt1: ∀x∈p1,x.block<W.heap.size:=by obtain⟨m,hm⟩:=k1;exact DataW.trod_lt m _ _ _ hm
 have y0: ∀n∈d0.weights Tryz.prog 23,n≤reachBytes:=fun n hn=>of_decide_eq_true (List.all_eq_true.1 hwt _ (DataW.weights_mem_each (j:=0) (t:=23) (by kernel_rfl) rfl n hn))
 have y1: ∀n∈d1.weights Tryz.prog 27,n≤reachBytes:=fun n hn=>of_decide_eq_true (List.all_eq_true.1 hwt _ (DataW.weights_mem_each (j:=1) (t:=27) (by kernel_rfl) rfl n hn))
 have hbk:=of_decide_eq_true (hcond _ rfl)
 simp only[List.append_nil,Rows.uptoBulkAll] at hbk
 have x0:Rows.uptoBulk d0≤1048576:=by omega
 have x1:Rows.uptoBulk d1≤1048576:=by omega
 clear hA0 hval0 hwt hcond hbk
 refine(awb v0 d0 p0 (hval 0 23 v0 rfl rfl) h0 y0 x0 v1 d1 p1 (hval 1 27 v1 rfl rfl) h1 y1 x1 W (apn hS) (aos hL) (asl hL) rfl).mono fun e W' ⟨he,bel⟩=> ?_
 subst he
 exact⟨_,rfl,_,_,_,[],_,[],hW',trodAll_mk1 (shut_bool Tryz.underlying4 _),(trodAll_cons_mk (Below.trod afw (by kernel_rfl) (of_decide_eq_true (by kernel_rfl)) k0 bel lt0) (trodAll_cons_mk (Below.trod afw (by kernel_rfl) (of_decide_eq_true (by kernel_rfl)) k1 bel lt1) trodAll_mk0)),rfl,bel.frame _,fun h=>by cases h⟩
theorem akz:Rows.WeighBackUptoSaid:=
 OpenClaim.holds_of_cond 6 Tryz.f6 rfl rfl rfl rfl rfl rfl rfl ⟨rfl,rfl,rfl,rfl,rfl⟩ rfl rfl rfl rfl rfl (by kernel_rfl) Tryz.func6 (by kernel_rfl)
  (of_decide_eq_true (by kernel_rfl)) (by unfold Func.isWrapper;first | (rw[if_pos (by decide+kernel)];kernel_rfl) | (rw[if_neg (by decide+kernel)];exact⟨rfl,rfl⟩))
  (fun os started H enc _ F=>by rw[OpenClaim.pre_eq_preRow];exact akj os started H enc F)
theorem weighBack_card:Rows.WeighBackUptoCardSaid:=
 Claim7.holds_tied_plain_at .later [] [.data,.data,.data,.data,.data,.data,.pinned,.pinned] true (true, "0a16f1fe035f3c40dedce7f27e6d4ccff5772c18e327580fa84a190a106bd36d") true
  akz (fun _ h=>by cases h) (by kernel_rfl) (fun _ h=>by cases h) weighBackUpto_row_tie rfl ⟨rfl,rfl⟩ (by kernel_rfl) rfl
  (fun f fn hf hfn=>by
   obtain rfl:f=6:=Option.some.inj ((show Tryz.prog.funcNamed Rows.weighBackUptoRow.func=some 6 by kernel_rfl).symm.trans hf)|>.symm
   obtain rfl:fn=Tryz.f6:=(Option.some.inj (Tryz.func6.symm.trans hfn)).symm
   exact⟨by kernel_rfl,fun j t ht=>by
    rw[Tryz.params6] at ht
    have hm:t∈[23,27]:=by simpa using Array.mem_of_getElem? ht
    have hall:([23,27].all fun u=> !Tryz.prog.wantsStandIn u)=true:=by kernel_rfl
    exact(show Tryz.prog.wantsStandIn t=false by simpa using List.all_eq_true.1 hall t hm)⟩)
  (by kernel_rfl)
#print axioms weighBack_card
end Go.Proofs.YtfhpgmlfgjfknaaGreatDoor
