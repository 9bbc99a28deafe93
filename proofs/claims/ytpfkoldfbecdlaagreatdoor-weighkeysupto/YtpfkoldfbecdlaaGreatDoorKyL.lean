/- WeighKeys, where what came in is of bulk at most 1048576: by any tables that can be read, any collation and any two texts, their sort keys, how they stand and whether they are canonically the same are the document's, errors with them: the statement holds of the program, its listed tables being as their initialisers lay them. -/
import Derived.Test.YtpfkoldfbecdlaaGreatDoorRows
import Derived.Test.YtpfkoldfbecdlaaGreatDoorCards
import Derived.Test.YtpfkoldfbecdlaaGreatDoorTie
import Derived.Test.YtpfkoldfbecdlaaGreatDoorWLaid
import Derived.Test.YtpfkoldfbecdlaaGreatDoorJ39
import Derived.Lay
import Derived.WalkKit
import Derived.ProofKit
import Derived.OpenShut
import Derived.ShutString
import Derived.ChangeOld
import Derived.Below
import Derived.LaidMore
import Derived.Stop.Joined
import Derived.SevenTiedAt
import Derived.Deep.DeepHandedRow
import Derived.JoinedCond
namespace Go.Proofs.YtpfkoldfbecdlaaGreatDoor
open Go.ChangeShapes Go.WideShapes Go.ChangeAt Go.RowKit
open Go.ChangeMaps (open_string shut_string)
theorem weighKeys_own:ownKnob Tryz.prog.godebug=none:=by kernel_rfl
theorem ae4:laidOutB Tryz.prog=true:=by kernel_rfl
theorem weighKeys_reads (os:Os){H:Type}(enc:TypeId×Value→H): ∃places,DataW.whole enc Tryz.prog ((World.laidAll Tryz.prog os laidA).forCall (fun _ _=>0) ⟨#[],#[.agg #[.string ByteArray.empty,.string ByteArray.empty],.agg #[.int .i64 0,.bool false,.bool false,.string ByteArray.empty,.string ByteArray.empty,.string ByteArray.empty]],[]⟩).memory Tryz.f4.params.toList Rows.weighKeysSpec.vars false (#[.agg #[.string ByteArray.empty,.string ByteArray.empty],.agg #[.int .i64 0,.bool false,.bool false,.string ByteArray.empty,.string ByteArray.empty,.string ByteArray.empty]]:Array Value).toList 8=some ([.agg [.lit (.string []),.lit (.string [])],.agg [.agg [.lit (.int .i64 0),.lit (.bool false),.lit (.bool false)],.lit (.string []),.lit (.string []),.lit (.string [])]],[],places):=
 ⟨[],by kernel_rfl⟩
set_option maxRecDepth 100000 in
theorem weighKeys_lifted (os:Os)(started:os.Started)(H:Type)(enc:TypeId×Value→H)(F:Stop.Interp):
  ReturnsInHanded {} Tryz.checked os 4 .any ((Rows.OpenSpec.upto Rows.weighKeysSpec).preRow enc Tryz.prog Tryz.f4 Rows.weighKeysUptoRow.domain false Rows.weighKeysUptoRow.laid) (((Rows.OpenSpec.upto Rows.weighKeysSpec).at F).post enc Tryz.prog Tryz.f4 false true false false):=by
 obtain⟨places,hx⟩:=weighKeys_reads os enc
 refine returnsInHanded_of_row (C:=Tryz.checked) (s:=Rows.OpenSpec.upto Rows.weighKeysSpec) weighKeys_own started (by kernel_rfl) Tryz.func4
  (witness_row_at (enc:=enc) (C:=Tryz.checked) false (World.laidAll Tryz.prog os laidA) #[.agg #[.string ByteArray.empty,.string ByteArray.empty],.agg #[.int .i64 0,.bool false,.bool false,.string ByteArray.empty,.string ByteArray.empty,.string ByteArray.empty]] (World.laidAll_os _ _ _) (by kernel_rfl) (by kernel_rfl) (by kernel_rfl)
   (OpenSpec.preRow_of_cond 8 hx (by kernel_rfl) (fun k hk=>by cases hk;kernel_rfl) (by kernel_rfl) (laidMet_laidAll _ (by kernel_rfl) (by kernel_rfl)))) ?_
 intro W base args ds gs before hval0 hW _ hcond hwt hL hS _
 have hval: ∀(j:Nat) t v,Tryz.f4.params[j]? =some t→args[j]? =some v→Value.okWide Tryz.prog W .any base t v:=hval0
 have hW':=hW
 obtain⟨p,q,hA0,hV,rfl,hfz,hnd⟩:=hW
 have hA:DataW.TrodAll enc Tryz.prog W 0 (fun _=>true) true Tryz.f4.params.toList args.toList ds p:=hA0
 rw[Tryz.params4] at hA hval
 obtain⟨v0,vs0,d0,ds0,p0,q0,hargs,rfl,rfl,h0,r0⟩:=trodAll_cons hA
 obtain⟨v1,vs1,d1,ds1,p1,q1,rfl,rfl,rfl,h1,r1⟩:=trodAll_cons r0
 obtain⟨rfl,rfl,rfl⟩:=trodAll_nil r1
 obtain rfl:args= #[v0,v1]:=by cases args;simp_all
 obtain⟨rfl,rfl⟩:=trodVars_none hV
 have k0:=h0
 have lt0: ∀x∈p0,x.block<W.heap.size:=by obtain⟨m,hm⟩:=k0;exact DataW.trod_lt m _ _ _ hm
 have k1:=h1
 have lt1: ∀x∈p1,x.block<W.heap.size:=by obtain⟨m,hm⟩:=k1;exact DataW.trod_lt m _ _ _ hm
 have y0: ∀n∈d0.weights Tryz.prog 42,n≤reachBytes:=fun n hn=>of_decide_eq_true (List.all_eq_true.1 hwt _ (DataW.weights_mem_each (j:=0) (t:=42) (by kernel_rfl) rfl n hn))
 have y1: ∀n∈d1.weights Tryz.prog 46,n≤reachBytes:=fun n hn=>of_decide_eq_true (List.all_eq_true.1 hwt _ (DataW.weights_mem_each (j:=1) (t:=46) (by kernel_rfl) rfl n hn))
 have hbk:=of_decide_eq_true (hcond _ rfl)
 simp only[List.append_nil,Rows.uptoBulkAll] at hbk
 have x0:Rows.uptoBulk d0≤1048576:=by omega
 have x1:Rows.uptoBulk d1≤1048576:=by omega
 clear hA0 hval0 hwt hcond hbk
 refine(wkeys_open v0 d0 p0 (hval 0 42 v0 rfl rfl) h0 y0 x0 v1 d1 p1 (hval 1 46 v1 rfl rfl) h1 y1 x1 W (glob_of_shape hS) (tabs_of_laidA hL) rfl).mono fun e W' ⟨he,bel⟩=> ?_
 subst he
 exact⟨_,rfl,_,_,_,[],_,[],hW',trodAll_mk1 (shut_bool Tryz.underlying4 _),(trodAll_cons_mk (Below.trod ae4 (by kernel_rfl) (of_decide_eq_true (by kernel_rfl)) k0 bel lt0) (trodAll_cons_mk (Below.trod ae4 (by kernel_rfl) (of_decide_eq_true (by kernel_rfl)) k1 bel lt1) trodAll_mk0)),rfl,bel.frame _,fun h=>by cases h⟩
theorem weighKeys_holds:Rows.WeighKeysUptoSaid:=
 OpenClaim.holds_of_cond 4 Tryz.f4 rfl rfl rfl rfl rfl rfl rfl ⟨rfl,rfl,rfl,rfl,rfl⟩ rfl rfl rfl rfl rfl (by kernel_rfl) Tryz.func4 (by kernel_rfl)
  (of_decide_eq_true (by kernel_rfl)) (by unfold Func.isWrapper;first | (rw[if_pos (by decide+kernel)];kernel_rfl) | (rw[if_neg (by decide+kernel)];exact⟨rfl,rfl⟩))
  (fun os started H enc _ F=>by rw[OpenClaim.pre_eq_preRow];exact weighKeys_lifted os started H enc F)
theorem weighKeys_card:Rows.WeighKeysUptoCardSaid:=
 Claim7.holds_tied_plain_at .later [] [.data,.data,.data,.pinned] true (true, "c615a275c397ab3d81c7b9dfc2a079e7f7fb5aa2460d617acb930b18e79e1a4b") true
  weighKeys_holds (fun _ h=>by cases h) (by kernel_rfl) (fun _ h=>by cases h) weighKeysUpto_row_tie rfl ⟨rfl,rfl⟩ (by kernel_rfl) rfl
  (fun f fn hf hfn=>by
   obtain rfl:f=4:=Option.some.inj ((show Tryz.prog.funcNamed Rows.weighKeysUptoRow.func=some 4 by kernel_rfl).symm.trans hf)|>.symm
   obtain rfl:fn=Tryz.f4:=(Option.some.inj (Tryz.func4.symm.trans hfn)).symm
   exact⟨by kernel_rfl,fun j t ht=>by
    rw[Tryz.params4] at ht
    have hm:t∈[42,46]:=by simpa using Array.mem_of_getElem? ht
    have hall:([42,46].all fun u=> !Tryz.prog.wantsStandIn u)=true:=by kernel_rfl
    exact(show Tryz.prog.wantsStandIn t=false by simpa using List.all_eq_true.1 hall t hm)⟩)
  (by kernel_rfl)
#print axioms weighKeys_card
end Go.Proofs.YtpfkoldfbecdlaaGreatDoor
