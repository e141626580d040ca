import PyProof.Rows.All
import PyVbrgah
import Wide.All
import OpenK.AllK
import Wide.FinOn
import PyProof.EqAt
import PyProof.EqKinds
import PyProof.TupleCall
import KE.BitLaws
import Open.SpecLaws
import KE.OsHead
import PyProof.ExcInit
import PyProof.InstStoreFacts
import PyProof.ExcAttrAll.Exception
import PyProof.StationsW
import PyProof.ExcArgsOwn
import PyProof.PassesOwn
import PyProof.RulesAs
import PySem.Challenge.RW_spellareas_s01_answers
import KE.OsGo
set_option Elab.async false
set_option linter.all false
set_option exponentiation.threshold 2000
set_option genSizeOfSpec false
set_option compiler.extract_closed false
set_option maxRecDepth 100000
set_option maxHeartbeats 4000000
noncomputable section
open Nat renaming le_of_ble_eq_true->ag,le_refl->aN,zero_le->bK,lt_of_lt_of_le->b6,le_trans->c8,ne_of_lt->dR,div_add_mod->gG,mul_le_mul_left->g8,lt_irrefl->iF,lt_succ_self->jo,min_eq_left->jP,mul_succ->mP,mod_lt->tH,add_sub_cancel_left->tP,le_of_succ_le->tX,le_of_lt->wO,mul_le_mul->xT,lt_succ_of_lt->zi,mod_eq_of_lt->A6,div_eq_of_lt->A7,add_zero->A8,le_of_eq->Ba,min_eq_right->Bg,not_lt_zero->BK,mul_add_mod->BL,mul_add_div->BM,mul_comm->F9,sub_zero->Gb,mul_pos->HF,not_lt->J1,succ->OV
open List renaming length_map->ai,getElem?_eq_getElem->aw,length_append->ay,getElem?_eq_some_iff->az,getElem?_map->aA,mem_of_getElem?->aP,length_cons->aV,range->ba,map_append->br,size_toArray->bz,map_map->bB,length_take->bJ,mem_cons->bS,take_add_one->bW,mem_map->bX,getD_eq_getElem?_getD->bY,append_nil->b5,mem_cons_of_mem->b7,take_length->cq,map_cons->cv,filter_cons->cK,map_congr_left->cP,length_filter_le->cY,length_drop->dk,findIdx?_eq_some_iff_getElem->dv,length->dA,getElem?_eq_none->dG,mem_cons_self->dH,filter_append->dI,range_succ->dQ,mem_range->eW,mem_append->eY,getElem?_range->fc,ext_getElem?->fi,mem_singleton->fu,length_eq_zero_iff->fP,foldl_cons->fT,all_eq_true->fZ,append_assoc->gm,mem_append_right->gw,any_cons->gQ,getElem_cons_drop->gX,foldl_append->gZ,getElem_of_mem->g9,length_nil->ie,take_append_drop->ip,length_singleton->iq,takeWhile_cons->ja,length_flatMap->jb,contains_cons->jx,find?_cons->jM,mem_of_mem_take->jQ,length_range->jW,flatMap_append->kg,lookup_cons->kC,range_succ_eq_map->kN,lookup->kO,nodup_cons->lF,mem_filter->lG,mem_iff_getElem?->lH,filter_nil->lJ,map_drop->lX,map_take->lY,drop_eq_getElem_cons->ma,getElem_inj->mQ,take_of_length_le->oJ,flatMap_singleton->oM,contains_nil->o6,drop_zero->pV,map_nil->pX,mem_of_mem_drop->qE,getElem?_append_right->qS,getElem?_append_left->rN,mem_of_find?_eq_some->rO,map->sL,drop_drop->tI,getElem?_set_self->uo,all_cons->uF,drop_append->uW,cons->vB,length_set->wR,getElem?_set_ne->wU,any_append->wZ,filter_sublist->xj,filterMap_cons->xk,tail_cons->xS,find?_eq_none->yz,drop_one->yW,flatMap_cons->ze,filter_congr->zf,all_map->Bb,not_mem_nil->Bc,drop_length->Be,filter_map->BN,length_zip->BO,of_mem_zip->BQ,nil_append->BR,drop_left->C0,take_left->C1,foldl_nil->C2,sum_cons->Ez,any_nil->Gd,filter->HD,range'->HE
open PySem.W renaming Frag->ak,findIn->bA,emptyDict->g0,instObj->jL,keepIn->kz,callWith_K->k9,fnOf->sO,plainGet->uX,methodCall_KW->vC,plainGet_of->xl,lookIn->xQ,methodObj->zg,hasDictIn->zh,takerIn->BP,codeIn->C4,isFn->Ga
open Bool renaming and_eq_true->aB,false_ne_true->bQ,eq_false_iff->cD,true_and->cT,false_and->dr,not_eq_true->dz,noConfusion->fe,or_false->fE,not_eq_true'->fM,eq_iff_iff->ib,or_true->jN,and_true->nF,or_eq_true->oh,false_or->qT,true_or->w6,and_false->xR,not_false->C5,not_true->EB
open Vbrgah renaming Level->aE,SIMPLE->aF,Being->aU,within->aY,Cell->bc,onWorld->bf,text->bw,Area->bD,Toks->bF,byNumber->bM,isWord->bO,row->bT,inside->bV,Spell->cz,Step->cC,tidyStep->cS,fail->cV,cost->cW,letter->da,isSign->dj,shownStep->dn,nats->dw,digit->dS,isPlace->eh,print->eK,readArea->eZ,stepIn->ff,changesGround->fj,free->fw,step->fz,GROUNDS->fA,along->fH,Tok->fK,isSignByte->gk,beingAt->gy,indexOf->gz,doAll->gA,readSpell->gM,Fault->gR,actArg->gS,aimOf->gT,ready->gU,isNumber->ig,movesBeings->iB,stepNumbers->iC,Cast->iG,castOn->iH,cellsOf->iO,basicHas->i5,sameArea->i6,bound->jh,sign->ji,number->jm,valueOf->jy,told->jC,slide->jR,tokens->jZ,cellsIn->kD,far->kP,atEnd->lh,isAll->lj,ACTS->mi,size->mj,decimal->mD,movedTo->mE,World->mR,callOf->nH,seesPlaces->o7,tidy->rB,stepCost->rP,price->sP,shove->sQ,apart->sR,State->sT,areasOf->tK,seesGround->tY,Call->ur,onWay->wY,payMana->xU,bytesOf->xV,tidyEither->zj,blank->Bd,shown->Bf,pairs->Bh,groundAt->BS,tidyBoth->BU,changes->C6,doStep->EA,BEINGS->EC,when_->Gf,Aim->J3,bit->J4
open PySem.Heap renaming get?_push_of_some->bC,lt_size->bH,get?_push_size->dt,size_push->gx,get?_update_other->gY,size_after_update->oK,get?_update_self->pW,SameBut->A9,Ns->Rv
open Option renaming some->bN,isSome_iff_exists->iA,map->J0
open Int renaming toNat_natCast->cg,toNat->dY,toNat_of_nonneg->d6,one_mul->uq,natCast_mul->wQ,zero_add->wX,add_mul->Cu
open PyVbrgah renaming shape->cZ,answers->Bi,calls->C3
open PyFlat renaming calls->d7,played->nE,rows->oH,told->rA
open PySem.SeqAt renaming EqAt->eX,shaped->pY
open VbrgahNeutral renaming step->fU,whole60->gB,asked1->jO,start->rD
open Array renaming length_toList->kh,getElem?_eq_some_iff->lW,mem_toList_iff->wV
open PySem.PyData renaming eqvAll->nG,canLayAll0->oZ,depthAll->wW,eqv->zG,strOk->Ge
theorem fB (n : Nat) (h : Nat.ble n 16777216 = true := by rfl) : n <= PySem.sizeLine := Nat.le_of_ble_eq_true h
local macro_rules
 | `(tactic| decide)=>`(tactic| decide +kernel)
local macro_rules
 | `(tactic| nofun)=>`(tactic| exact ⟨rfl,rfl,rfl,by decide,rfl,by decide,by decide⟩)
theorem Z {A : Sort _} {a : A} : a = a := rfl
namespace Sp
open Vbrgah
theorem lK :∀l:List Nat,(l.takeWhile p).length<=l.length
 | []=>aN _
 | c::r=>by
  rw[ja];split
  ·exact Nat.succ_le_succ (lK r)
  exact bK _
def qF (h:p c=true):0 < ((c::r).takeWhile p).length:=by
 rw[ja,if_pos h];exact Nat.succ_pos _
theorem rQ :∀(k p:Nat) (l:Bytes),l.length < k->lex k p l=lex (l.length+1) p l
 | 0,_,_,h=>absurd h (BK _)
 | k+1,p,[],_=>rfl
 | k+1,p,c::r,h=>by
  have h1:r.length < k:=Nat.lt_of_succ_lt_succ h;have hd :∀(f:Nat->Bool),f c=true->((c::r).drop ((c::r).takeWhile f).length).length < k:=λf hf=>by
   rw[dk];have a:=qF (r:=r) hf;have b:=lK (p:=f) (c::r);simp only[aV] at a b ⊢
   lia
  have Pp :∀(f:Nat->Bool),f c=true->((c::r).drop ((c::r).takeWhile f).length).length < r.length+1:=λf hf=>by
   rw[dk];have a:=qF (r:=r) hf;have b:=lK (p:=f) (c::r);simp only[aV] at a b ⊢
   lia
  show lex (k+1) p (c::r)=lex (r.length+1+1) p (c::r);simp only[lex];split
  ·rw[rQ k _ _ h1]
  split
  ·rename_i hl
   rw[rQ k _ _ (hd _ hl),rQ (r.length+1) _ _ (Pp _ hl)]
  split
  ·rename_i hl
   split
   ·rfl
   rw[rQ k _ _ (hd _ hl),rQ (r.length+1) _ _ (Pp _ hl)]
  split
  ·rw[rQ k _ _ h1]
  rfl
def C7 (p:Nat) (l:Bytes):Toks:=lex (l.length+1) p l
theorem tZ (b:Bytes):tokens b=C7 0 b:=rfl
def Iy (h:blank c=true):C7 p (c::r)=C7 (p+1) r:=by
 show lex (r.length+1+1) p (c::r)=_;rw[lex,if_pos h];rfl
def dq (p:Nat) (l:Bytes):Tok × Nat:=match l with
 | []=>(.eof,p)
 | c::r=>
  if letter c=true then(.word ((c::r).takeWhile letter),p+((c::r).takeWhile letter).length)
  else if digit c=true then
   (if 3 < ((c::r).takeWhile digit).length then(.bad,p+1) else(.num (valueOf ((c::r).takeWhile digit)),p+((c::r).takeWhile digit).length))
  else if isSignByte c=true then(.sign c,p+1)
  else(.bad,p+1)
def MC (h:blank c=false):C7 p (c::r)=(match (dq p (c::r)).1 with
  | .bad=>[(.bad,p)]
  | t=>(t,p)::C7 (dq p (c::r)).2 ((c::r).drop ((dq p (c::r)).2 - p))):=by
 have hd :∀(f:Nat->Bool),f c=true->((c::r).drop ((c::r).takeWhile f).length).length < r.length+1:=λf hf=>by
  rw[dk];have a:=qF (r:=r) hf;have b:=lK (p:=f) (c::r);simp only[aV] at a b ⊢
  lia
 have e :∀n:Nat,p+n - p=n:=λn=>by lia
 show lex (r.length+1+1) p (c::r)=_;rw[lex,if_neg (by rw[h];exact bQ)];by_cases h1:letter c=true
 ·have t:dq p (c::r)=(.word ((c::r).takeWhile letter),p+((c::r).takeWhile letter).length):=by
   unfold dq;dsimp only;rw[if_pos h1]
  rw[if_pos h1,t];dsimp only;rw[e,rQ _ _ _ (hd _ h1)];rfl
 by_cases h2:digit c=true
 ·by_cases h3:3 < ((c::r).takeWhile digit).length
  ·have t:dq p (c::r)=(.bad,p+1):=by
    unfold dq;dsimp only;rw[if_neg h1,if_pos h2,if_pos h3]
   rw[if_neg h1,if_pos h2,t];dsimp only;rw[if_pos h3]
  have t:dq p (c::r)=(.num (valueOf ((c::r).takeWhile digit)),p+((c::r).takeWhile digit).length):=by
   unfold dq;dsimp only;rw[if_neg h1,if_pos h2,if_neg h3]
  rw[if_neg h1,if_pos h2,t];dsimp only;rw[if_neg h3,e,rQ _ _ _ (hd _ h2)];rfl
 by_cases h3:isSignByte c=true
 ·have t:dq p (c::r)=(.sign c,p+1):=by
   unfold dq;dsimp only;rw[if_neg h1,if_neg h2,if_pos h3]
  rw[if_neg h1,if_neg h2,if_pos h3,t];dsimp only;rw[e];rfl
 have t:dq p (c::r)=(.bad,p+1):=by
  unfold dq;dsimp only;rw[if_neg h1,if_neg h2,if_neg h3]
 rw[if_neg h1,if_neg h2,if_neg h3,t]
end Sp
namespace Sp
open Vbrgah
def C8 (h:number lo hi t=.ok (n,r)):r.length < t.length:=by
 unfold number at h;split at h
 ·split at h
  ·cases h;exact jo _
  cases h
 unfold fail at h;cases h
def hJ (h:isSign t c=true):0 < t.length/\(t.drop 1).length+1=t.length:=by
 cases t with
 | nil=>simp[isSign] at h
 | cons x r=>simp
def nI {w:String} (h:isWord t w=true):0 < t.length/\(t.drop 1).length+1=t.length:=by
 cases t with
 | nil=>simp[isWord] at h
 | cons x r=>simp
def lL (t:Toks):Except Fault (Area × Toks):=match t with
 | (.word w,_)::r=>(match SIMPLE.findIdx? λv=>v == w with
  | none=>fail 2 t
  | some i=>if 5<=i/\i<=7 then(match number 0 9 r with
    | .error e=>.error e
    | .ok (n,s)=>.ok (.basic i n,s)) else .ok (.basic i 0,r))
 | _=>fail 2 t
theorem md (k mode d:Nat) (acc:Area) (t:Toks):areaAt (k+1) mode d acc t=(
  if mode=0 then(match areaAt k 1 d acc t with
   | .error e=>.error e
   | .ok (a,r)=>areaAt k 3 d a r)
  else if mode=3 then(if isSign t 124=true then(match areaAt k 1 d acc (t.drop 1) with
   | .error e=>.error e
   | .ok (a,r)=>areaAt k 3 d (.either acc a) r) else .ok (acc,t))
  else if mode=1 then(match areaAt k 2 d acc t with
   | .error e=>.error e
   | .ok (a,r)=>areaAt k 4 d a r)
  else if mode=4 then(if isSign t 38=true then(match areaAt k 2 d acc (t.drop 1) with
   | .error e=>.error e
   | .ok (a,r)=>areaAt k 4 d (.both acc a) r) else .ok (acc,t))
  else if isWord t "not" = true then(if d=0 then fail 6 t else match areaAt k 2 (d - 1) acc (t.drop 1) with
   | .error e=>.error e
   | .ok (a,r)=>.ok (.no a,r))
  else if isWord t "grow" = true then(if d=0 then fail 6 t else match areaAt k 2 (d - 1) acc (t.drop 1) with
   | .error e=>.error e
   | .ok (a,r)=>.ok (.grow a,r))
  else if isSign t 40=true then(if d=0 then fail 6 t else match areaAt k 0 (d - 1) acc (t.drop 1) with
   | .error e=>.error e
   | .ok (a,r)=>if isSign r 41=true then .ok (a,r.drop 1) else fail 2 r)
  else lL t):=rfl
def vD (h:lL t=.ok (a,r)):r.length < t.length:=by
 unfold lL at h;split at h
 ·split at h
  ·unfold fail at h;cases h
  split at h
  ·split at h
   ·cases h
   rename_i n s e1;have l1:=C8 e1;cases h;simp
   lia
  cases h;simp
 unfold fail at h;cases h
def less (mode:Nat):Nat:=if mode=3 then 0 else if mode=4 then 0 else 1
theorem iP :∀(k mode d:Nat) (acc:Area) (t:Toks) (a:Area) (r:Toks),areaAt k mode d acc t=.ok (a,r)->r.length+less mode<=t.length
 | 0,_,_,_,t,_,_,h=>by rw[areaAt] at h;unfold fail at h;cases h
 | k+1,mode,d,acc,t,a,r,h=>by
  rw[md] at h;by_cases m0:mode=0
  ·subst m0
   rw[if_pos rfl] at h;split at h
   ·cases h
   rename_i a1 r1 e1;have l1:=iP k _ _ _ _ _ _ e1;have l2:=iP k _ _ _ _ _ _ h;simp[less] at l1 l2 ⊢
   lia
  rw[if_neg m0] at h;by_cases m3:mode=3
  ·subst m3
   rw[if_pos rfl] at h;split at h
   ·rename_i hs
    have z:=hJ hs;split at h
    ·cases h
    rename_i a1 r1 e1;have l1:=iP k _ _ _ _ _ _ e1;have l2:=iP k _ _ _ _ _ _ h;simp[less] at l1 l2 ⊢
    lia
   cases h;simp[less]
  rw[if_neg m3] at h;by_cases m1:mode=1
  ·subst m1
   rw[if_pos rfl] at h;split at h
   ·cases h
   rename_i a1 r1 e1;have l1:=iP k _ _ _ _ _ _ e1;have l2:=iP k _ _ _ _ _ _ h;simp[less] at l1 l2 ⊢
   lia
  rw[if_neg m1] at h;by_cases m4:mode=4
  ·subst m4
   rw[if_pos rfl] at h;split at h
   ·rename_i hs
    have z:=hJ hs;split at h
    ·cases h
    rename_i a1 r1 e1;have l1:=iP k _ _ _ _ _ _ e1;have l2:=iP k _ _ _ _ _ _ h;simp[less] at l1 l2 ⊢
    lia
   cases h;simp[less]
  rw[if_neg m4] at h;have hl:less mode=1:=by unfold less;rw[if_neg m3,if_neg m4]
  rw[hl];split at h
  ·rename_i hw
   have z:=nI hw;split at h
   ·unfold fail at h;cases h
   split at h
   ·cases h
   rename_i a1 r1 e1;have l1:=iP k _ _ _ _ _ _ e1;cases h;simp[less] at l1
   lia
  split at h
  ·rename_i hw
   have z:=nI hw;split at h
   ·unfold fail at h;cases h
   split at h
   ·cases h
   rename_i a1 r1 e1;have l1:=iP k _ _ _ _ _ _ e1;cases h;simp[less] at l1
   lia
  split at h
  ·rename_i hw
   have z:=hJ hw;split at h
   ·unfold fail at h;cases h
   split at h
   ·cases h
   rename_i a1 r1 e1;have l1:=iP k _ _ _ _ _ _ e1;split at h
   ·rename_i vE
    have z2:=hJ vE;cases h;simp[less] at l1;simp
    lia
   unfold fail at h;cases h
  have l:=vD h
  lia
def jc (mode:Nat) (t:Toks):Nat:=3 * t.length+(if mode=0 then 3 else if mode=1 then 2 else 1)
theorem EE :∀(k mode d:Nat) (acc:Area) (t:Toks),jc mode t<=k->∀j,k<=j->areaAt j mode d acc t=areaAt k mode d acc t
 | 0,mode,d,acc,t,h,_,_=>by
  unfold jc at h;split at h
  ·lia
  split at h <;> lia
 | k+1,mode,d,acc,t,h,0,hj=>absurd hj (by lia)
 | k+1,mode,d,acc,t,h,j+1,hj=>by
  have KI:k<=j:=by lia
  have go :∀m dd ac tt,jc m tt<=k->areaAt j m dd ac tt=areaAt k m dd ac tt:=λm dd ac tt hn=>EE k m dd ac tt hn j KI;rw[md,md];by_cases m0:mode=0
  ·subst m0
   rw[if_pos rfl,if_pos rfl,go 1 _ _ _ (by simp[jc] at h ⊢;lia)];split
   ·rfl
   rename_i a1 r1 e1;have l1:=iP k _ _ _ _ _ _ e1;exact go 3 _ _ _ (by simp[jc,less] at h l1 ⊢;lia)
  rw[if_neg m0,if_neg m0];by_cases m3:mode=3
  ·subst m3
   rw[if_pos rfl,if_pos rfl];split
   ·rename_i hs
    have z:=hJ hs;rw[go 1 _ _ _ (by simp[jc] at h z ⊢;lia)];split
    ·rfl
    rename_i a1 r1 e1;have l1:=iP k _ _ _ _ _ _ e1;exact go 3 _ _ _ (by simp[jc,less] at h l1 z ⊢;lia)
   rfl
  rw[if_neg m3,if_neg m3];by_cases m1:mode=1
  ·subst m1
   rw[if_pos rfl,if_pos rfl,go 2 _ _ _ (by simp[jc] at h ⊢;lia)];split
   ·rfl
   rename_i a1 r1 e1;have l1:=iP k _ _ _ _ _ _ e1;exact go 4 _ _ _ (by simp[jc,less] at h l1 ⊢;lia)
  rw[if_neg m1,if_neg m1];by_cases m4:mode=4
  ·subst m4
   rw[if_pos rfl,if_pos rfl];split
   ·rename_i hs
    have z:=hJ hs;rw[go 2 _ _ _ (by simp[jc] at h z ⊢;lia)];split
    ·rfl
    rename_i a1 r1 e1;have l1:=iP k _ _ _ _ _ _ e1;exact go 4 _ _ _ (by simp[jc,less] at h l1 z ⊢;lia)
   rfl
  rw[if_neg m4,if_neg m4];have hn:jc mode t=3 * t.length+1:=by unfold jc;rw[if_neg m0,if_neg m1]
  rw[hn] at h;split
  ·rename_i hw
   have z:=nI hw;rw[go 2 _ _ _ (by simp[jc] at z ⊢;lia)]
  split
  ·rename_i hw
   have z:=nI hw;rw[go 2 _ _ _ (by simp[jc] at z ⊢;lia)]
  split
  ·rename_i hw
   have z:=hJ hw;rw[go 0 _ _ _ (by simp[jc] at z ⊢;lia)]
  rfl
def AR (mode d:Nat) (acc:Area) (t:Toks):Except Fault (Area × Toks):=areaAt (3 * t.length+3) mode d acc t
def Pq (mode:Nat) (t:Toks):jc mode t<=3 * t.length+3:=by
 unfold jc;split
 ·lia
 split <;> lia
def uu (h:jc mode t<=k):areaAt k mode d acc t=AR mode d acc t:=by
 unfold AR;have a:=EE (jc mode t) mode d acc t (aN _) k h;have b:=EE (jc mode t) mode d acc t (aN _) (3 * t.length+3) (Pq mode t);rw[a,b]
theorem zR (h:AR mode d acc t=.ok (a,r)):r.length+less mode<=t.length:=iP _ _ _ _ _ _ _ h
theorem pZ (t:Toks):areaIn t=AR 0 DEEP (.basic 4 0) t:=uu (by have:=Pq 0 t;unfold fuel;lia)
def SU (d:Nat) (acc:Area) (t:Toks):AR 0 d acc t=(match AR 1 d acc t with
  | .error e=>.error e
  | .ok (a,r)=>AR 3 d a r):=by
 show areaAt (3 * t.length+2+1) 0 d acc t=_;rw[md,if_pos rfl,uu (mode:=1) (by simp[jc])];cases e1:AR 1 d acc t with
 | error e=>rfl
 | ok x=>
  obtain⟨a1,r1⟩:=x;have l1:=zR e1;exact uu (by simp[jc,less] at l1 ⊢;lia)
def SV (d:Nat) (acc:Area) (t:Toks):AR 1 d acc t=(match AR 2 d acc t with
  | .error e=>.error e
  | .ok (a,r)=>AR 4 d a r):=by
 show areaAt (3 * t.length+2+1) 1 d acc t=_;rw[md,if_neg (by decide),if_neg (by decide),if_pos rfl,uu (mode:=2) (by simp[jc])];cases e1:AR 2 d acc t with
 | error e=>rfl
 | ok x=>
  obtain⟨a1,r1⟩:=x;have l1:=zR e1;exact uu (by simp[jc,less] at l1 ⊢;lia)
def AR3 (d:Nat) (acc:Area) (t:Toks):AR 3 d acc t=(if isSign t 124=true then(match AR 1 d acc (t.drop 1) with
  | .error e=>.error e
  | .ok (a,r)=>AR 3 d (.either acc a) r) else .ok (acc,t)):=by
 show areaAt (3 * t.length+2+1) 3 d acc t=_;rw[md,if_neg (by decide),if_pos rfl];split
 ·rename_i hs
  have z:=hJ hs;rw[uu (mode:=1) (by simp[jc] at z ⊢;lia)];cases e1:AR 1 d acc (t.drop 1) with
  | error e=>rfl
  | ok x=>
   obtain⟨a1,r1⟩:=x;have l1:=zR e1;exact uu (by simp[jc,less] at l1 z ⊢;lia)
 rfl
def AR4 (d:Nat) (acc:Area) (t:Toks):AR 4 d acc t=(if isSign t 38=true then(match AR 2 d acc (t.drop 1) with
  | .error e=>.error e
  | .ok (a,r)=>AR 4 d (.both acc a) r) else .ok (acc,t)):=by
 show areaAt (3 * t.length+2+1) 4 d acc t=_;rw[md,if_neg (by decide),if_neg (by decide),if_neg (by decide),if_pos rfl];split
 ·rename_i hs
  have z:=hJ hs;rw[uu (mode:=2) (by simp[jc] at z ⊢;lia)];cases e1:AR 2 d acc (t.drop 1) with
  | error e=>rfl
  | ok x=>
   obtain⟨a1,r1⟩:=x;have l1:=zR e1;exact uu (by simp[jc,less] at l1 z ⊢;lia)
 rfl
def Iz (d:Nat) (acc:Area) (t:Toks):AR 2 d acc t=(
  if isWord t "not" = true then(if d=0 then fail 6 t else match AR 2 (d - 1) acc (t.drop 1) with
   | .error e=>.error e
   | .ok (a,r)=>.ok (.no a,r))
  else if isWord t "grow" = true then(if d=0 then fail 6 t else match AR 2 (d - 1) acc (t.drop 1) with
   | .error e=>.error e
   | .ok (a,r)=>.ok (.grow a,r))
  else if isSign t 40=true then(if d=0 then fail 6 t else match AR 0 (d - 1) acc (t.drop 1) with
   | .error e=>.error e
   | .ok (a,r)=>if isSign r 41=true then .ok (a,r.drop 1) else fail 2 r)
  else lL t):=by
 show areaAt (3 * t.length+2+1) 2 d acc t=_;rw[md,if_neg (by decide),if_neg (by decide),if_neg (by decide),if_neg (by decide)];split
 ·rename_i hw
  have z:=nI hw;rw[uu (mode:=2) (by simp[jc] at z ⊢;lia)]
 split
 ·rename_i hw
  have z:=nI hw;rw[uu (mode:=2) (by simp[jc] at z ⊢;lia)]
 split
 ·rename_i hw
  have z:=hJ hw;rw[uu (mode:=0) (by simp[jc] at z ⊢;lia)]
 rfl
def zk (h:actArg i t=.ok (n,r)):r.length<=t.length:=by
 unfold actArg at h;split at h
 ·exact wO (C8 h)
 split at h
 ·exact wO (C8 h)
 split at h
 ·split at h
  ·split at h
   ·cases h;simp
   unfold fail at h;cases h
  unfold fail at h;cases h
 cases h;exact aN _
def IA (h:areaIn t=.ok (a,r)):r.length < t.length:=by
 rw[pZ] at h;exact zR h
def sU (h:stepIn t=.ok (s,r)):r.length < t.length:=by
 unfold stepIn at h;split at h
 ·rename_i w p rr
  split at h
  ·unfold fail at h;cases h
  split at h
  ·cases h
  rename_i i hi n s2 e2;have l2:=zk e2;split at h
  ·unfold fail at h;cases h
  split at h
  ·cases h
  rename_i a u e3;have l3:=IA e3;simp at l3;split at h
  ·cases h;simp;lia
  split at h
  ·cases h
  rename_i c v e4;have l4:=IA e4;simp at l4;cases h;simp;lia
 unfold fail at h;cases h
theorem IB :∀(k:Nat) (t:Toks),t.length < k->∀j,k<=j->stepsIn j t=stepsIn k t
 | 0,_,h,_,_=>absurd h (BK _)
 | k+1,t,h,0,hj=>absurd hj (by lia)
 | k+1,t,h,j+1,hj=>by
  rw[stepsIn,stepsIn];split
  ·rfl
  rename_i s r e;have l:=sU e;rw[IB k (r.drop 1) (by simp;lia) j (by lia)]
def SR (t:Toks):Except Fault Spell:=stepsIn (t.length+1) t
theorem zS (b:Bytes):readSpell b=SR (tokens b):=rfl
def Rw (t:Toks):SR t=(match stepIn t with
  | .error e=>.error e
  | .ok (s,r)=>if atEnd r=true then .ok [s] else if isSign r 59=false then fail 2 r else match SR (r.drop 1) with
   | .error e=>.error e
   | .ok l=>.ok (s::l)):=by
 unfold SR;rw[stepsIn];cases e:stepIn t with
 | error _=>rfl
 | ok x=>
  obtain⟨s,r⟩:=x;have l:=sU e;dsimp only;rw[IB ((r.drop 1).length+1) (r.drop 1) (jo _) t.length (by simp;lia)];rfl
end Sp
namespace Sp
open Vbrgah
inductive Itm where
 | sim (k n:Nat)
 | no
 | grow
 | both
 | either
 deriving DecidableEq
def aQ:Area->List Itm
 | .basic k n=>[.sim k n]
 | .no a=>aQ a++[.no]
 | .grow a=>aQ a++[.grow]
 | .both a b=>aQ a++(aQ b++[.both])
 | .either a b=>aQ a++(aQ b++[.either])
def mG:Itm->Bytes
 | .sim k _=>SIMPLE.getD k []
 | .no=>text "not"
 | .grow=>text "grow"
 | .both=>[38]
 | .either=>[124]
def Cv:Itm->Nat
 | .sim _ n=>n
 | _=>0
def arity:Itm->Nat
 | .sim _ _=>0
 | .no=>1
 | .grow=>1
 | .both=>2
 | .either=>2
def nJ:Area->Prop
 | .basic k n=>k < 16/\n<=9/\(n=0\/(5<=k/\k<=7))
 | .no a=>nJ a
 | .grow a=>nJ a
 | .both a b=>nJ a/\nJ b
 | .either a b=>nJ a/\nJ b
def nL:Itm->Prop
 | .sim k n=>k < 16/\n<=9/\(n=0\/(5<=k/\k<=7))
 | _=>True
theorem j8 :∀{a:Area},nJ a->∀i∈aQ a,nL i
 | .basic k n,h,i,hi=>by
  simp[aQ] at hi;subst hi;exact h
 | .no a,h,i,hi=>by
  simp[aQ] at hi;rcases hi with hi | rfl
  ·exact j8 (a:=a) h i hi
  trivial
 | .grow a,h,i,hi=>by
  simp[aQ] at hi;rcases hi with hi | rfl
  ·exact j8 (a:=a) h i hi
  trivial
 | .both a b,h,i,hi=>by
  simp[aQ] at hi;rcases hi with hi | hi | rfl
  ·exact j8 (a:=a) h.1 i hi
  ·exact j8 (a:=b) h.2 i hi
  trivial
 | .either a b,h,i,hi=>by
  simp[aQ] at hi;rcases hi with hi | hi | rfl
  ·exact j8 (a:=a) h.1 i hi
  ·exact j8 (a:=b) h.2 i hi
  trivial
structure Alg (α : Type) where
 sim:Nat->Nat->α
 no:α->α
 grow:α->α
 both:α->α->α
 either:α->α->α
section
variable {α : Type} (f:Alg α)
def ev:Area->α
 | .basic k n=>f.sim k n
 | .no a=>f.no (ev a)
 | .grow a=>f.grow (ev a)
 | .both a b=>f.both (ev a) (ev b)
 | .either a b=>f.either (ev a) (ev b)
def uY:Itm->List α->Option α
 | .sim k n,[]=>some (f.sim k n)
 | .no,[x]=>some (f.no x)
 | .grow,[x]=>some (f.grow x)
 | .both,[x,y]=>some (f.both x y)
 | .either,[x,y]=>some (f.either x y)
 | _,_=>none
def iR (st:List α) (i:Itm):Option (List α):=
 if arity i<=st.length then(uY f i (st.drop (st.length - arity i))).map λv=>st.take (st.length - arity i)++[v] else none
def iw:List Itm->List α->Option (List α)
 | [],st=>some st
 | i::r,st=>(iR f st i).bind (iw r)
theorem kF :∀(l r:List Itm) (st:List α),iw f (l++r) st=(iw f l st).bind (iw f r)
 | [],r,st=>rfl
 | i::l,r,st=>by
  show(iR f st i).bind (iw f (l++r))=((iR f st i).bind (iw f l)).bind (iw f r);cases iR f st i with
  | none=>rfl
  | some s=>exact kF l r s
def SW (st:List α) (k n:Nat):iR f st (.sim k n)=some (st++[f.sim k n]):=by
 unfold iR;rw[if_pos (show arity (.sim k n)<=st.length from bK _)];simp[arity,uY]
def MD {i:Itm} {g:α->α} (hi:arity i=1) (hg :∀x,uY f i [x]=some (g x)) (st:List α) (x:α):iR f (st++[x]) i=some (st++[g x]):=by
 unfold iR;rw[hi,if_pos (by simp)];have e:(st++[x]).length - 1=st.length:=by simp
 rw[e,C0,C1,hg];rfl
def KJ {i:Itm} {g:α->α->α} (hi:arity i=2) (hg :∀x y,uY f i [x,y]=some (g x y)) (st:List α) (x y:α):iR f (st++[x]++[y]) i=some (st++[g x y]):=by
 unfold iR;have e0:st++[x]++[y]=st++[x,y]:=by simp
 rw[e0,hi,if_pos (by simp)];have e:(st++[x,y]).length - 2=st.length:=by simp
 rw[e,C0,C1,hg];rfl
theorem mm :∀(a:Area) (st:List α),iw f (aQ a) st=some (st++[ev f a])
 | .basic k n,st=>by
  show(iR f st (.sim k n)).bind (iw f [])=_;rw[SW];rfl
 | .no a,st=>by
  show iw f (aQ a++[.no]) st=_;rw[kF,mm a st];show(iR f (st++[ev f a]) .no).bind (iw f [])=_;rw[MD f (g:=f.no) rfl λ_=>rfl];rfl
 | .grow a,st=>by
  show iw f (aQ a++[.grow]) st=_;rw[kF,mm a st];show(iR f (st++[ev f a]) .grow).bind (iw f [])=_;rw[MD f (g:=f.grow) rfl λ_=>rfl];rfl
 | .both a b,st=>by
  show iw f (aQ a++(aQ b++[.both])) st=_;rw[kF,mm a st];show iw f (aQ b++[.both]) (st++[ev f a])=_;rw[kF,mm b];show(iR f (st++[ev f a]++[ev f b]) .both).bind (iw f [])=_;rw[KJ f (g:=f.both) rfl λ_ _=>rfl];rfl
 | .either a b,st=>by
  show iw f (aQ a++(aQ b++[.either])) st=_;rw[kF,mm a st];show iw f (aQ b++[.either]) (st++[ev f a])=_;rw[kF,mm b];show(iR f (st++[ev f a]++[ev f b]) .either).bind (iw f [])=_;rw[KJ f (g:=f.either) rfl λ_ _=>rfl];rfl
def IC (h:iw f l st=some di) (hi:l[j]?=some i) :
  ∃s1 s2,iw f (l.take j) st=some s1/\iR f s1 i=some s2/\iw f (l.take (j+1)) st=some s2:=by
 have hl:l=l.take j++i::l.drop (j+1):=by
  obtain⟨hj,e⟩:=az.mp hi;rw[<- e,gX,ip]
 have h':=h;rw[hl,kF] at h';cases e1:iw f (l.take j) st with
 | none=>rw[e1] at h';cases h'
 | some s1=>
  rw[e1] at h';have h2:(iR f s1 i).bind (iw f (l.drop (j+1)))=some di:=h';cases e2:iR f s1 i with
  | none=>rw[e2] at h2;cases h2
  | some s2=>
   refine⟨s1,s2,Z,e2,?_⟩;have ht:l.take (j+1)=l.take j++[i]:=by
    rw[bW,hi];rfl
   rw[ht,kF,e1];show(iR f s1 i).bind (iw f [])=_;rw[e2];rfl
end
def sV {α : Type} {f:Alg α} {st s2:List α} {i:Itm} (h:iR f st i=some s2) :
  arity i<=st.length/\∃v,uY f i (st.drop (st.length - arity i))=some v/\s2=st.take (st.length - arity i)++[v]:=by
 unfold iR at h;split at h
 ·rename_i hl
  refine⟨hl,?_⟩;cases e:uY f i (st.drop (st.length - arity i)) with
  | none=>rw[e] at h;cases h
  | some v=>rw[e] at h;exact⟨v,Z,(bN.inj h).symm⟩
 cases h
def SX (h:lL t=.ok (a,r)):nJ a:=by
 unfold lL at h;split at h
 ·split at h
  ·unfold fail at h;cases h
  rename_i i hi;have aaK:i < 16:=by
   have z:=dv.mp hi;obtain⟨z,_⟩:=z;simpa [SIMPLE] using z
  split at h
  ·rename_i h57
   split at h
   ·cases h
   rename_i n s e1;have hn:n<=9:=by
    unfold number at e1;split at e1
    ·split at e1
     ·rename_i q;cases e1;exact q.2
     cases e1
    unfold fail at e1;cases e1
   cases h;exact⟨aaK,hn,.inr h57⟩
  cases h;exact⟨aaK,by decide,.inl rfl⟩
 unfold fail at h;cases h
theorem mY :∀(k mode d:Nat) (acc:Area) (t:Toks) (a:Area) (r:Toks),nJ acc->areaAt k mode d acc t=.ok (a,r)->nJ a
 | 0,_,_,_,t,_,_,_,h=>by rw[areaAt] at h;unfold fail at h;cases h
 | k+1,mode,d,acc,t,a,r,hw,h=>by
  rw[md] at h;split at h
  ·split at h
   ·cases h
   rename_i a1 r1 e1;exact mY k _ _ _ _ _ _ (mY k _ _ _ _ _ _ hw e1) h
  split at h
  ·split at h
   ·split at h
    ·cases h
    rename_i a1 r1 e1;exact mY k 3 d (.either acc a1) r1 _ _ ⟨hw,mY k _ _ _ _ _ _ hw e1⟩ h
   cases h;exact hw
  split at h
  ·split at h
   ·cases h
   rename_i a1 r1 e1;exact mY k _ _ _ _ _ _ (mY k _ _ _ _ _ _ hw e1) h
  split at h
  ·split at h
   ·split at h
    ·cases h
    rename_i a1 r1 e1;exact mY k 4 d (.both acc a1) r1 _ _ ⟨hw,mY k _ _ _ _ _ _ hw e1⟩ h
   cases h;exact hw
  split at h
  ·split at h
   ·unfold fail at h;cases h
   split at h
   ·cases h
   rename_i a1 r1 e1;cases h;exact mY k _ _ _ _ a1 _ hw e1
  split at h
  ·split at h
   ·unfold fail at h;cases h
   split at h
   ·cases h
   rename_i a1 r1 e1;cases h;exact mY k _ _ _ _ a1 _ hw e1
  split at h
  ·split at h
   ·unfold fail at h;cases h
   split at h
   ·cases h
   rename_i a1 r1 e1;split at h
   ·cases h
    exact mY k _ _ _ _ a _ hw e1
   unfold fail at h;cases h
  exact SX h
theorem eu :∀(k mode d:Nat) (acc:Area) (t:Toks) (a:Area) (r:Toks),areaAt k mode d acc t=.ok (a,r)->
  (aQ a).length+r.length<=t.length+(if mode=3\/mode=4 then(aQ acc).length else 0)
 | 0,_,_,_,t,_,_,h=>by rw[areaAt] at h;unfold fail at h;cases h
 | k+1,mode,d,acc,t,a,r,h=>by
  rw[md] at h;by_cases m0:mode=0
  ·subst m0
   rw[if_pos rfl] at h;split at h
   ·cases h
   rename_i a1 r1 e1;have l1:=eu k _ _ _ _ _ _ e1;have l2:=eu k _ _ _ _ _ _ h;simp at l1 l2 ⊢
   lia
  rw[if_neg m0] at h;by_cases m3:mode=3
  ·subst m3
   rw[if_pos rfl] at h;split at h
   ·rename_i hs
    have z:=hJ hs;split at h
    ·cases h
    rename_i a1 r1 e1;have l1:=eu k _ _ _ _ _ _ e1;have l2:=eu k _ _ _ _ _ _ h;simp[aQ] at l1 l2 z ⊢
    lia
   cases h;simp;lia
  rw[if_neg m3] at h;by_cases m1:mode=1
  ·subst m1
   rw[if_pos rfl] at h;split at h
   ·cases h
   rename_i a1 r1 e1;have l1:=eu k _ _ _ _ _ _ e1;have l2:=eu k _ _ _ _ _ _ h;simp at l1 l2 ⊢
   lia
  rw[if_neg m1] at h;by_cases m4:mode=4
  ·subst m4
   rw[if_pos rfl] at h;split at h
   ·rename_i hs
    have z:=hJ hs;split at h
    ·cases h
    rename_i a1 r1 e1;have l1:=eu k _ _ _ _ _ _ e1;have l2:=eu k _ _ _ _ _ _ h;simp[aQ] at l1 l2 z ⊢
    lia
   cases h;simp;lia
  rw[if_neg m4] at h;rw[if_neg (show ¬ (mode=3\/mode=4) from λq=>q.elim m3 m4)];split at h
  ·rename_i hw
   have z:=nI hw;split at h
   ·unfold fail at h;cases h
   split at h
   ·cases h
   rename_i a1 r1 e1;have l1:=eu k _ _ _ _ _ _ e1;cases h;simp[aQ] at l1 z ⊢
   lia
  split at h
  ·rename_i hw
   have z:=nI hw;split at h
   ·unfold fail at h;cases h
   split at h
   ·cases h
   rename_i a1 r1 e1;have l1:=eu k _ _ _ _ _ _ e1;cases h;simp[aQ] at l1 z ⊢
   lia
  split at h
  ·rename_i hw
   have z:=hJ hw;split at h
   ·unfold fail at h;cases h
   split at h
   ·cases h
   rename_i a1 r1 e1;have l1:=eu k _ _ _ _ _ _ e1;split at h
   ·rename_i vE
    have z2:=hJ vE;cases h;simp at l1 z z2 ⊢
    lia
   unfold fail at h;cases h
  have l:=vD h;have e:(aQ a).length=1:=by
   unfold lL at h;split at h
   ·split at h
    ·unfold fail at h;cases h
    split at h
    ·split at h
     ·cases h
     cases h;rfl
    cases h;rfl
   unfold fail at h;cases h
  lia
end Sp
namespace Sp
open Vbrgah
def cellAt (w k:Nat):Cell:=(((k % w:Nat):Int),((k / w:Nat):Int))
def range_add (a b:Nat):ba (a+b)=ba a++(ba b).map λi=>a+i:=by
 apply fi;intro i;by_cases h:i < a
 ·rw[rN (by simpa using h)]
  rw[fc (by lia),fc h]
 rw[qS (by simpa using h)];simp only[jW,aA];by_cases h2:i < a+b
 ·rw[fc h2,fc (by lia)]
  simp
  lia
 rw[dG (by simp;lia),dG (by simp;lia)];rfl
theorem KL (w:Nat) (hw:0 < w) :∀h:Nat,((ba h).flatMap λ(y:Nat)=>(ba w).map λ(x:Nat)=>(((x:Nat):Int),((y:Nat):Int)))=(ba (w * h)).map (cellAt w)
 | 0=>rfl
 | h+1=>by
  rw[dQ,kg,KL w hw h];rw[show w * (h+1)=w * h+w from mP w h,range_add,br];congr 1;simp only[ze,List.flatMap_nil,b5,bB];apply cP;intro x hx;have ID:x < w:=eW.mp hx;show(((x:Nat):Int),((h:Nat):Int))=cellAt w (w * h+x);unfold cellAt;rw[BL,A6 ID,BM hw,A7 ID,A8]
theorem oj (L:Level) (hw:0 < L.w):cellsOf L=(ba (L.w * L.h)).map (cellAt L.w):=KL L.w hw L.h
def EF (L:Level) (hw:0 < L.w):(cellsOf L).length=L.w * L.h:=by rw[oj L hw];simp
theorem ua {w h k:Nat} (hk:k < w * h):k / w < h:=Nat.div_lt_of_lt_mul hk
def EG (hw:0 < L.w):c∈cellsOf L↔inside L c=true:=by
 rw[oj L hw];constructor
 ·intro h
  obtain⟨k,hk,rfl⟩:=bX.mp h;have ub:=eW.mp hk;have a:=tH k hw;have b:=ua ub;unfold inside cellAt;simp only[aB,decide_eq_true_eq];generalize k % L.w=r at a ⊢;generalize k / L.w=q at b ⊢
  lia
 intro h;unfold inside at h;simp only[aB,decide_eq_true_eq] at h;obtain⟨h1,h2,h3,h4⟩:=h;refine bX.mpr ⟨c.2.toNat * L.w+c.1.toNat,eW.mpr ?_,?_⟩
 ·have hx:c.1.toNat < L.w:=by lia
  have hy:c.2.toNat+1<=L.h:=by lia
  calc c.2.toNat * L.w+c.1.toNat < c.2.toNat * L.w+L.w:=by lia
   _=L.w * (c.2.toNat+1):=by rw[mP,F9]
   _<=L.w * L.h:=g8 _ hy
 have hx:c.1.toNat < L.w:=by lia
 unfold cellAt;rw[F9 c.2.toNat L.w,BL,A6 hx,BM hw,A7 hx,A8];apply Prod.ext
 ·show((c.1.toNat:Nat):Int)=c.1
  lia
 show((c.2.toNat:Nat):Int)=c.2
 lia
def C9 {w:Nat} (h:cellAt w i=cellAt w j):i=j:=by
 unfold cellAt at h;have h1:((i % w:Nat):Int)=((j % w:Nat):Int):=congrArg Prod.fst h;have h2:((i / w:Nat):Int)=((j / w:Nat):Int):=congrArg Prod.snd h;have a:=gG i w;have b:=gG j w;have e1:i % w=j % w:=by lia
 have e2:i / w=j / w:=by lia
 rw[e1,e2] at a
 lia
def OW (L:Level) (hw:0 < L.w):(cellsOf L).Nodup:=by
 rw[oj L hw];exact List.Pairwise.map _ (λa b cG e=>cG (C9 e)) List.nodup_range
def contains_filter {l:List Cell} {p:Cell->Bool} {c:Cell} (hc:c∈l):(l.filter p).contains c=p c:=by
 cases h:p c with
 | true=>simp[hc,h]
 | false=>simp[hc,h]
def any_filter {α : Type} {l:List α} {p q:α->Bool}:(l.filter p).any q=l.any λd=>p d&&q d:=by
 induction l with
 | nil=>rfl
 | cons a l ih=>
  rw[cK];cases h:p a <;> simp[h,ih]
theorem lM {l:List Cell} {p q:Cell->Bool} (h :∀c∈l,p c=q c):l.filter p=l.filter q:=zf h
def uc (L:Level) (t:Cell):Nat->Cell->Bool
 | 0,c=>c == t
 | n+1,c=>uc L t n c || (groundAt L c != 0&&(cellsOf L).any λd=>uc L t n d&&decide (far c d<=1))
def has (L:Level) (m:Aim):Area->Cell->Bool
 | .basic k n,c=>if k=7 then uc L m.target n c else basicHas L m k n c
 | .no a,c=>!has L m a c
 | .grow a,c=>(cellsOf L).any λd=>has L m a d&&decide (far c d<=1)
 | .both a b,c=>has L m a c&&has L m b c
 | .either a b,c=>has L m a c || has L m b c
def J5 (L:Level) (l:List Cell):List Cell:=(cellsOf L).filter λc=>l.contains c || (groundAt L c != 0&&l.any λd=>decide (far c d<=1))
theorem IE (L:Level) :∀(n:Nat) (l:List Cell),spreadIn L (n+1) l=J5 L (spreadIn L n l)
 | 0,l=>rfl
 | n+1,l=>by
  show spreadIn L (n+1) (J5 L l)=J5 L (spreadIn L n (J5 L l));exact IE L n (J5 L l)
theorem IF :∀{l:List Cell},l.Nodup->t∈l->l.filter (λc=>c == t)=[t]
 | [],_,h=>absurd h (by simp)
 | a::l,hn,h=>by
  have D6:=lF.mp hn;rw[cK];by_cases e:a=t
  ·subst e
   rw[if_pos (by simp)];congr 1;apply List.filter_eq_nil_iff.mpr;intro c hc;simp only[beq_iff_eq];intro q;subst q;exact D6.1 hc
  rw[if_neg (by simpa using e)];rcases bS.mp h with q | q
  ·exact absurd q.symm e
  exact IF D6.2 q
theorem IG {L:Level} (hw:0 < L.w) {t:Cell} (ht:inside L t=true) :∀n:Nat,spreadIn L n [t]=(cellsOf L).filter (uc L t n)
 | 0=>(IF (OW L hw) ((EG hw).mpr ht)).symm
 | n+1=>by
  rw[IE,IG hw ht n];unfold J5;apply lM;intro c hc;rw[contains_filter hc,any_filter];rfl
theorem jd {L:Level} (hw:0 < L.w) {m:Aim} (ht:inside L m.target=true) :∀a:Area,cellsIn L m a=(cellsOf L).filter (has L m a)
 | .basic k n=>by
  by_cases hk:k=7
  ·unfold cellsIn
   rw[if_pos hk,IG hw ht n];apply lM;intro c _;show _=(if k=7 then uc L m.target n c else basicHas L m k n c);rw[if_pos hk]
  unfold cellsIn;rw[if_neg hk];apply lM;intro c _;show _=(if k=7 then uc L m.target n c else basicHas L m k n c);rw[if_neg hk]
 | .no a=>by
  unfold cellsIn;rw[jd hw ht a];apply lM;intro c hc;show(!((cellsOf L).filter (has L m a)).contains c) = !has L m a c;rw[contains_filter hc]
 | .grow a=>by
  unfold cellsIn;rw[jd hw ht a];apply lM;intro c hc;show(((cellsOf L).filter (has L m a)).any λd=>decide (far c d<=1))=_;rw[any_filter];rfl
 | .both a b=>by
  unfold cellsIn;rw[jd hw ht a,jd hw ht b];show((cellsOf L).filter (has L m a)).filter (λc=>((cellsOf L).filter (has L m b)).contains c)=_;rw[List.filter_filter];apply lM;intro c hc;rw[contains_filter hc];show(has L m b c&&has L m a c)=(has L m a c&&has L m b c);exact Bool.and_comm _ _
 | .either a b=>by
  unfold cellsIn;rw[jd hw ht a,jd hw ht b];apply lM;intro c hc;show(((cellsOf L).filter (has L m a)).contains c || ((cellsOf L).filter (has L m b)).contains c)=_;rw[contains_filter hc,contains_filter hc];rfl
def mask (L:Level) (p:Cell->Bool):List Bool:=(ba (L.w * L.h)).map λk=>p (cellAt L.w k)
def gs (L:Level) (p:Cell->Bool):(mask L p).length=L.w * L.h:=by simp[mask]
def uZ (h:k < L.w * L.h):(mask L p)[k]?=some (p (cellAt L.w k)):=by
 unfold mask;rw[aA,fc h];rfl
def size_le:size a<=1↔-1<=a/\a<=1:=by unfold size;split <;> lia
def SY:far a b<=1↔(-1<=a.1 - b.1/\a.1 - b.1<=1)/\(-1<=a.2 - b.2/\a.2 - b.2<=1):=by
 unfold far;rw[Int.max_le,size_le,size_le]
def wide (w:Nat) (g:Nat->Bool) (k:Nat):Bool:=g k || ((decide (0 < k % w)&&g (k - 1)) || (decide (k % w < w - 1)&&g (k+1)))
def vF (w n:Nat) (g:Nat->Bool) (k:Nat):Bool:=wide w g k || ((decide (w<=k)&&wide w g (k - w)) || (decide (k+w < n)&&wide w g (k+w)))
def Bj {w q r:Nat} (hr:r < w):(w * q+r) % w=r/\(w * q+r) / w=q:=by
 rw[BL,A6 hr,BM (by lia),A7 hr,A8];exact⟨Z,Z⟩
def S0 {w k:Nat} (hw:0 < w) (h:0 < k % w):(k - 1) % w=k % w - 1/\(k - 1) / w=k / w:=by
 have a:=gG k w;have b:=tH k hw;have e:k - 1=w * (k / w)+(k % w - 1):=by lia
 have z:=Bj (w:=w) (q:=k / w) (r:=k % w - 1) (by lia);rw[e];exact z
def IH {w k:Nat} (h:k % w+1 < w):(k+1) % w=k % w+1/\(k+1) / w=k / w:=by
 have a:=gG k w;have e:k+1=w * (k / w)+(k % w+1):=by lia
 have z:=Bj (w:=w) (q:=k / w) (r:=k % w+1) h;rw[e];exact z
def Pr {w k:Nat} (hw:0 < w) (h:w<=k):(k - w) % w=k % w/\(k - w) / w=k / w - 1/\1<=k / w:=by
 have a:=gG k w;have b:=tH k hw;have c:=Nat.div_pos h hw;have e:k - w=w * (k / w - 1)+k % w:=by
  rw[Nat.mul_sub,Nat.mul_one];have:w * 1<=w * (k / w):=g8 w c
  lia
 have z:=Bj (w:=w) (q:=k / w - 1) (r:=k % w) b;rw[e];exact⟨z.1,z.2,c⟩
theorem KN {w k:Nat} (hw:0 < w):(k+w) % w=k % w/\(k+w) / w=k / w+1:=⟨Nat.add_mod_right k w,Nat.add_div_right k hw⟩
def xm {w h:Nat} (hw:0 < w) (hk:k < w * h):wide w g k=true↔∃j,j < w * h/\g j=true/\j / w=k / w/\j % w<=k % w+1/\k % w<=j % w+1:=by
 unfold wide;simp only[oh,aB,decide_eq_true_eq];have b:=tH k hw;have a:=gG k w;constructor
 ·rintro(h1 | ⟨h0,h1⟩ | ⟨h0,h1⟩)
  ·exact⟨k,hk,h1,Z,by lia,by lia⟩
  ·obtain⟨e1,e2⟩:=S0 hw h0
   exact⟨k - 1,by lia,h1,e2,by lia,by lia⟩
  obtain⟨e1,e2⟩:=IH (w:=w) (k:=k) (by lia);refine⟨k+1,?_,h1,e2,by lia,by lia⟩;have q:=ua hk
  calc k+1=w * (k / w)+(k % w+1):=by lia
   _ < w * (k / w)+w:=by lia
   _=w * (k / w+1):=by rw[mP]
   _<=w * h:=g8 _ q
 rintro⟨j,hj,h1,e1,e2,e3⟩;have a':=gG j w;rw[e1] at a';have b':=tH j hw;rcases Nat.lt_trichotomy (j % w) (k % w) with q | q | q
 ·have ej:j=k - 1:=by lia
  subst ej;exact .inr (.inl ⟨by lia,h1⟩)
 ·have ej:j=k:=by lia
  subst ej;exact .inl h1
 have ej:j=k+1:=by lia
 subst ej;exact .inr (.inr ⟨by lia,h1⟩)
def S2 {w h:Nat} (hw:0 < w) (hk:k < w * h):vF w (w * h) g k=true↔∃j,j < w * h/\g j=true/\(j / w<=k / w+1/\k / w<=j / w+1)/\(j % w<=k % w+1/\k % w<=j % w+1):=by
 unfold vF;simp only[oh,aB,decide_eq_true_eq];constructor
 ·rintro(h1 | ⟨h0,h1⟩ | ⟨h0,h1⟩)
  ·obtain⟨j,a,b,c,d,e⟩:=(xm hw hk).mp h1
   exact⟨j,a,b,by lia,d,e⟩
  ·obtain⟨e1,e2,e3⟩:=Pr hw h0
   obtain⟨j,a,b,c,d,e⟩:=(xm hw (show k - w < w * h by lia)).mp h1;rw[e1] at d e;rw[e2] at c;exact⟨j,a,b,by lia,d,e⟩
  obtain⟨e1,e2⟩:=KN (k:=k) hw;obtain⟨j,a,b,c,d,e⟩:=(xm hw h0).mp h1;rw[e1] at d e;rw[e2] at c;exact⟨j,a,b,by lia,d,e⟩
 rintro⟨j,hj,h1,⟨r1,r2⟩,e2,e3⟩;rcases Nat.lt_trichotomy (j / w) (k / w) with q | q | q
 ·have hwk:w<=k:=by
   have a:=gG k w;have z:w * 1<=w * (k / w):=g8 w (Nat.lt_of_le_of_lt (bK _) q)
   lia
  obtain⟨u1,u2,u3⟩:=Pr hw hwk;refine .inr (.inl ⟨hwk,(xm hw (show k - w < w * h by lia)).mpr ⟨j,hj,h1,?_,?_,?_⟩⟩)
  ·rw[u2];lia
  ·rw[u1];exact e2
  rw[u1];exact e3
 ·exact .inl ((xm hw hk).mpr ⟨j,hj,h1,q,e2,e3⟩)
 obtain⟨u1,u2⟩:=KN (k:=k) hw;have Pt:k+w < w * h:=by
  have a:=gG k w;have b:=tH k hw;have jr:=ua hj;have z:w * (k / w+1+1)<=w * h:=g8 w (by lia);rw[mP,mP] at z
  lia
 refine .inr (.inr ⟨Pt,(xm hw Pt).mpr ⟨j,hj,h1,?_,?_,?_⟩⟩)
 ·rw[u2];lia
 ·rw[u1];exact e2
 rw[u1];exact e3
def fX (h:a=true↔b=true):a=b:=by
 cases a <;> cases b <;> simp_all
def S3 {L:Level} (hw:0 < L.w) {p:Cell->Bool} {k:Nat} (hk:k < L.w * L.h) :
  vF L.w (L.w * L.h) (λj=>p (cellAt L.w j)) k=(cellsOf L).any λd=>p d&&decide (far (cellAt L.w k) d<=1):=by
 apply fX;rw[S2 hw hk,List.any_eq_true];constructor
 ·rintro⟨j,hj,h1,h2,h3⟩
  refine⟨cellAt L.w j,?_,?_⟩
  ·rw[oj L hw]
   exact bX.mpr ⟨j,eW.mpr hj,Z⟩
  rw[h1,cT,decide_eq_true_eq,SY];unfold cellAt;generalize j % L.w=a at h3 ⊢;generalize k % L.w=b at h3 ⊢;generalize j / L.w=c at h2 ⊢;generalize k / L.w=d at h2 ⊢;simp only
  lia
 rintro⟨c,hc,h⟩;rw[oj L hw] at hc;obtain⟨j,hj,rfl⟩:=bX.mp hc;rw[aB,decide_eq_true_eq,SY] at h;obtain⟨h1,h2,h3⟩:=h;refine⟨j,eW.mp hj,h1,?_⟩;unfold cellAt at h2 h3;generalize j % L.w=a at h2 ⊢;generalize k % L.w=b at h2 ⊢;generalize j / L.w=c at h3 ⊢;generalize k / L.w=d at h3 ⊢;simp only at h2 h3
 lia
end Sp
namespace Sp
open Vbrgah
def qU {α : Type} (f:α->α) (i k:Nat) (l:List α):(l.modify i f)[k]?=if i=k then l[k]?.map f else l[k]?:=by
 rw[List.getElem?_modify];by_cases e:i=k
 ·simp[e]
 simp[e]
theorem EH {α : Type} (f:α->α) :∀(is:List Nat) (l:List α) (k:Nat),is.Nodup->(is.foldl (λl i=>l.modify i f) l)[k]?=if k∈is then l[k]?.map f else l[k]?
 | [],l,k,_=>by simp
 | i::is,l,k,h=>by
  have h':=lF.mp h;rw[fT,EH f is _ k h'.2,List.getElem?_modify];by_cases e:i=k
  ·subst e
   rw[if_neg h'.1,if_pos (dH ..)];simp
  have e':¬ k=i:=λq=>e q.symm;simp[e,e']
def places {α : Type} (p:α->Bool) (l:List α):List Nat:=(ba l.length).filter λi=>(l[i]?.map p).getD false
theorem ME {α : Type} (p:α->Bool) (l:List α):(places p l).Nodup:=List.Pairwise.filter _ List.nodup_range
def II {α : Type} {p:α->Bool} {l:List α} {i:Nat}:i∈places p l↔∃b,l[i]?=some b/\p b=true:=by
 unfold places;rw[lG,eW];constructor
 ·rintro⟨h1,h2⟩
  rw[aw h1] at h2 ⊢;exact⟨_,Z,h2⟩
 rintro⟨b,h1,h2⟩;refine⟨(az.mp h1).1,?_⟩;rw[h1];exact h2
def GK {α : Type} (p:α->Bool) (f:α->α) (l:List α):(places p l).foldl (λl i=>l.modify i f) l=l.map λb=>if p b=true then f b else b:=by
 apply fi;intro k;rw[EH f _ _ _ (ME p l),aA];cases e:l[k]? with
 | none=>simp
 | some b=>
  by_cases h:p b=true
  ·rw[if_pos (II.mpr ⟨b,e,h⟩)]
   simp[h]
  rw[if_neg (λq=>by
   obtain⟨b',e',h'⟩:=II.mp q;rw[e] at e';cases e';exact h h')]
  simp[h]
def D7 {α : Type} (p:α->Bool) (l:List α):(places p l).map (λi=>l[i]?)=(l.filter p).map some:=by
 induction l with
 | nil=>rfl
 | cons a l ih=>
  unfold places at ih ⊢;rw[aV,kN,cK,BN];have e:(HD ((λi=>(J0 p (a::l)[i]?).getD false) ∘ OV) (ba l.length))=HD (λi=>(J0 p l[i]?).getD false) (ba l.length):=by
   apply zf;intro i _;simp
  rw[e,cK];by_cases h:p a=true
  ·rw[if_pos (by simp[h]),if_pos h]
   simp only[cv,bB,<- ih];congr 1
  rw[if_neg (by simp[h]),if_neg h];rw[<- ih,bB];rfl
structure WF (L:Level):Prop where
 w0:2<=L.w
 w1:L.w<=12
 h0:2<=L.h
 h1:L.h<=12
 gl:L.ground.length=L.w * L.h
 ins :∀b∈L.beings,inside L b.at_=true
 nd:(L.beings.map (·.number)).Nodup
 n8:L.beings.length<=8
def WF.lZ (h:WF L):0 < L.w:=by have:=h.w0;lia
def qV {L K:Level} (hw:K.w=L.w) (hh:K.h=L.h) (c:Cell):inside K c=inside L c:=by unfold inside;rw[hw,hh]
def EI (h:inside L c=true):indexOf L c < L.w * L.h:=by
 unfold inside at h;simp only[aB,decide_eq_true_eq] at h;obtain⟨h1,h2,h3,h4⟩:=h;unfold indexOf;have hx:c.1.toNat < L.w:=by lia
 have hy:c.2.toNat+1<=L.h:=by lia
 have e:(c.2 * (L.w:Int)+c.1).toNat=c.2.toNat * L.w+c.1.toNat:=by
  have:c.2 * (L.w:Int)+c.1=((c.2.toNat * L.w+c.1.toNat:Nat):Int):=by
   rw[Int.natCast_add,wQ,d6 h1,d6 h3]
  rw[this];exact cg _
 rw[e]
 calc c.2.toNat * L.w+c.1.toNat < c.2.toNat * L.w+L.w:=by lia
  _=L.w * (c.2.toNat+1):=by rw[mP,F9]
  _<=L.w * L.h:=g8 _ hy
def om (h:inside L c=true):cellAt L.w (indexOf L c)=c/\((indexOf L c:Nat):Int)=c.2 * (L.w:Int)+c.1:=by
 unfold inside at h;simp only[aB,decide_eq_true_eq] at h;obtain⟨h1,h2,h3,h4⟩:=h;have hx:c.1.toNat < L.w:=by lia
 have e0:c.2 * (L.w:Int)+c.1=((L.w * c.2.toNat+c.1.toNat:Nat):Int):=by
  rw[Int.natCast_add,wQ,d6 h1,d6 h3,Int.mul_comm]
 have e:indexOf L c=L.w * c.2.toNat+c.1.toNat:=by
  unfold indexOf;rw[e0];exact cg _
 refine⟨?_,by rw[e,e0]⟩;have z:=Bj (w:=L.w) (q:=c.2.toNat) hx;unfold cellAt;rw[e,z.1,z.2];apply Prod.ext
 ·show((c.1.toNat:Nat):Int)=c.1
  lia
 show((c.2.toNat:Nat):Int)=c.2
 lia
theorem KO (hw:0 < L.w) (hk:k < L.w * L.h):inside L (cellAt L.w k)=true:=
 (EG hw).mp (by rw[oj L hw];exact bX.mpr ⟨k,eW.mpr hk,Z⟩)
theorem aaL (hw:0 < L.w) (hk:k < L.w * L.h):indexOf L (cellAt L.w k)=k:=C9 (om (KO hw hk)).1
def Bk (hw:0 < L.w) (hk:k < L.w * L.h):groundAt L (cellAt L.w k)=L.ground.getD k 0:=by
 unfold groundAt;rw[if_pos (KO hw hk),aaL hw hk]
def BV (h:inside L c=true):c=cellAt L.w k↔indexOf L c=k:=by
 constructor
 ·intro e
  have z:=(om h).1;rw[e] at z;rw[e];exact C9 z
 intro e;rw[<- e];exact(om h).1.symm
def fY (L:Level) (i:Nat) (f:Being->Being):Level:=⟨L.w,L.h,L.ground,L.beings.modify i f⟩
def qk (nd:(L.beings.map (·.number)).Nodup) (hi:L.beings[i]?=some b) (hn:b'.number=b.number):setBeing L b'=fY L i λ_=>b':=by
 unfold setBeing fY;congr 1;apply fi;intro k;rw[aA,qU];by_cases e:i=k
 ·subst e
  rw[if_pos rfl,hi];simp[hn]
 rw[if_neg e];cases q:L.beings[k]? with
 | none=>rfl
 | some x=>
  have ne:¬ x.number=b'.number:=λz=>by
   apply e;have hk:(L.beings.map (·.number))[k]?=some x.number:=by rw[aA,q];rfl
   have rR:(L.beings.map (·.number))[i]?=some x.number:=by rw[aA,hi,z,hn];rfl
   obtain⟨a1,a2⟩:=az.mp hk;obtain⟨b1,b2⟩:=az.mp rR;exact(mQ nd).mp (b2.trans a2.symm)
  simp[ne]
def ud {l:List Being} (nd:(l.map (·.number)).Nodup) {i:Nat} {b:Being} (hi:l[i]?=some b):l.find? (λx=>x.number == b.number)=some b:=by
 rw[List.find?_eq_some_iff_append];refine⟨by simp,l.take i,l.drop (i+1),?_,?_⟩
 ·obtain⟨hj,e⟩:=az.mp hi
  rw[<- e,gX,ip]
 intro x hx;obtain⟨j,hj⟩:=lH.mp hx;have hji:j < i:=by
  have:=(az.mp hj).1;rw[bJ] at this
  lia
 rw[List.getElem?_take_of_lt hji] at hj;simp only[fM,beq_eq_false_iff_ne,ne_eq];intro z;have hk:(l.map (·.number))[j]?=some b.number:=by rw[aA,hj];simp[z]
 have rR:(l.map (·.number))[i]?=some b.number:=by rw[aA,hi];rfl
 obtain⟨a1,a2⟩:=az.mp hk;obtain⟨b1,b2⟩:=az.mp rR;have:=(mQ nd).mp (a2.trans b2.symm)
 lia
def vG (hf :∀b,L.beings[i]?=some b->(f b).number=b.number):(fY L i f).beings.map (·.number)=L.beings.map (·.number):=by
 apply fi;intro k;show((L.beings.modify i f).map (·.number))[k]?=_;rw[aA,aA,qU];by_cases e:i=k
 ·subst e
  rw[if_pos rfl];cases q:L.beings[i]? with
  | none=>rfl
  | some b=>simp[hf b q]
 rw[if_neg e]
def uG:(fY L i f).beings[k]?=if i=k then L.beings[k]?.map f else L.beings[k]?:=by
 show(L.beings.modify i f)[k]?=_;exact qU f i k _
theorem kQ (L:Level) :∀(n:Nat) (b:Being) (dx dy:Int),(slide L n b dx dy).number=b.number
 | 0,b,_,_=>rfl
 | n+1,b,dx,dy=>by
  unfold slide;dsimp only;split
  ·rw[kQ L n]
   rfl
  rfl
def hU (fr:Cell) (away:Bool) (n:Nat) (L:Level) (i:Nat):Level:=match L.beings[i]? with
 | none=>L
 | some b=>shove L fr away n b
def IJ (nd:(L.beings.map (·.number)).Nodup) (hi:L.beings[i]?=some b) :
  ∃b':Being,b'.number=b.number/\shove L fr away n b=fY L i λ_=>b':=by
 unfold shove;dsimp only;split
 ·refine⟨b,Z,?_⟩
  unfold fY;have e:L.beings.modify i (λ_=>b)=L.beings:=by
   apply fi;intro k;rw[qU];by_cases q:i=k
   ·subst q
    rw[if_pos rfl,hi];rfl
   rw[if_neg q]
  rw[e]
 exact⟨_,kQ _ _ _ _ _,qk nd hi (kQ _ _ _ _ _)⟩
def D8 {L:Level} (nd:(L.beings.map (·.number)).Nodup) {fr:Cell} {away:Bool} {n i:Nat}:(hU fr away n L i).beings.map (·.number)=L.beings.map (·.number):=by
 unfold hU;cases hi:L.beings[i]? with
 | none=>rfl
 | some b=>
  obtain⟨b',hb,e⟩:=IJ (fr:=fr) (away:=away) (n:=n) nd hi;dsimp only;rw[e];exact vG λx hx=>by rw[hi] at hx;cases hx;exact hb
theorem uv (fr:Cell) (away:Bool) (n:Nat) :∀(is:List Nat) (L:Level) (ks:List Nat),(L.beings.map (·.number)).Nodup->
  is.map (λi=>(L.beings.map (·.number))[i]?)=ks.map some->shoveAll fr away n L ks=is.foldl (hU fr away n) L
 | [],L,ks,_,h=>by
  cases ks with
  | nil=>rfl
  | cons k ks=>simp at h
 | i::is,L,ks,nd,h=>by
  cases ks with
  | nil=>simp at h
  | cons k ks=>
   simp only[cv,vB.injEq] at h;obtain⟨h1,h2⟩:=h;cases hi:L.beings[i]? with
   | none=>rw[aA,hi] at h1;cases h1
   | some b=>
    have hk:b.number=k:=by
     rw[aA,hi] at h1;exact bN.inj h1
    subst hk;unfold shoveAll;rw[ud nd hi,fT];have em:hU fr away n L i=shove L fr away n b:=by unfold hU;rw[hi]
    have en:=D8 (fr:=fr) (away:=away) (n:=n) (i:=i) nd;rw[em] at en ⊢;exact uv fr away n is _ ks (by rw[en];exact nd) (by rw[en];exact h2)
structure j0 (L K:Level):Prop where
 w:K.w=L.w
 h:K.h=L.h
 gl:K.ground.length=L.ground.length
 nums:K.beings.map (·.number)=L.beings.map (·.number)
 ins:(∀b∈L.beings,inside L b.at_=true)->∀b∈K.beings,inside L b.at_=true
theorem j0.refl (L:Level):j0 L L:=⟨Z,Z,Z,Z,λh=>h⟩
theorem j0.trans {L K M:Level} (a:j0 L K) (b:j0 K M):j0 L M:=
 ⟨b.w.trans a.w,b.h.trans a.h,b.gl.trans a.gl,b.nums.trans a.nums,λh x hx=>by
  have z:=b.ins (λy hy=>by rw[qV a.w a.h];exact a.ins h y hy) x hx;rw[qV a.w a.h] at z;exact z⟩
theorem j0.wf {L K:Level} (a:j0 L K) (h:WF L):WF K:=
 ⟨by rw[a.w];exact h.w0,by rw[a.w];exact h.w1,by rw[a.h];exact h.h0,by rw[a.h];exact h.h1,by rw[a.gl,a.w,a.h];exact h.gl,
  λb hb=>by rw[qV a.w a.h];exact a.ins h.ins b hb,by rw[a.nums];exact h.nd,by
   have z:=congrArg dA a.nums;simp only[ai] at z;rw[z];exact h.n8⟩
theorem MF (f:Being->Being) (hn :∀b,(f b).number=b.number) (ha :∀b,(f b).at_=b.at_):j0 L ⟨L.w,L.h,L.ground,L.beings.map f⟩:=
 ⟨Z,Z,Z,by
  show(L.beings.map f).map (·.number)=_;rw[bB];apply cP;intro b _;exact hn b,λh b hb=>by
   obtain⟨x,hx,rfl⟩:=bX.mp hb;rw[ha];exact h x hx⟩
def BW (h:free L c=true):inside L c=true:=by
 unfold free at h;rw[aB] at h;exact h.1
theorem EJ (L:Level) :∀(n:Nat) (b:Being) (dx dy:Int),inside L b.at_=true->inside L (slide L n b dx dy).at_=true
 | 0,b,_,_,h=>h
 | n+1,b,dx,dy,h=>by
  unfold slide;dsimp only;split
  ·rename_i hf
   exact EJ L n _ dx dy (BW hf)
  exact h
theorem EK (hi:L.beings[i]?=some b) (hn:b'.number=b.number) (ha:inside L b.at_=true->inside L b'.at_=true):j0 L (fY L i λ_=>b'):=
 ⟨Z,Z,Z,vG λx hx=>by rw[hi] at hx;cases hx;exact hn,λh x hx=>by
  obtain⟨k,hk⟩:=lH.mp hx;rw[uG] at hk;split at hk
  ·rename_i e
   subst e;rw[hi] at hk;cases hk;exact ha (h b (aP hi))
  exact h x (aP hk)⟩
def OX (nd:(L.beings.map (·.number)).Nodup):j0 L (hU fr away n L i):=by
 unfold hU;cases hi:L.beings[i]? with
 | none=>exact j0.refl L
 | some b=>
  dsimp only;unfold shove;dsimp only;split
  ·exact j0.refl L
  rw[qk nd hi (kQ _ _ _ _ _)];exact EK hi (kQ _ _ _ _ _) (EJ L _ _ _ _)
theorem zl :∀(is:List Nat) {L:Level},(L.beings.map (·.number)).Nodup->j0 L (is.foldl (hU fr away n) L)
 | [],L,_=>j0.refl L
 | i::is,L,nd=>by
  have z:=OX (fr:=fr) (away:=away) (n:=n) (i:=i) nd;rw[fT];exact z.trans (zl is (by rw[z.nums];exact nd))
def BX {L:Level} {p:Being->Bool}:(places p L.beings).map (λi=>(L.beings.map (·.number))[i]?)=((L.beings.filter p).map λb=>b.number).map some:=by
 have z:=D7 p L.beings;have e:(places p L.beings).map (λi=>(L.beings.map (·.number))[i]?)=((places p L.beings).map λi=>L.beings[i]?).map (J0 (·.number)):=by
  rw[bB];apply cP;intro i _;rw[aA];rfl
 rw[e,z,bB,bB];rfl
theorem J6 (wf:WF L) (cells:List Cell) (g:Nat):j0 L (setGround L cells g):=
 ⟨Z,Z,by
  show(((cellsOf L).zip L.ground).map _).length=_;rw[ai,BO,EF L wf.lZ,wf.gl,Nat.min_self],Z,λh=>h⟩
def J7 (L:Level) (k:Cast) (s:Step):Bool:=match s.cond with
 | none=>true
 | some c=>!(cellsIn L (aimOf L k) c).isEmpty
def EL (L:Level) (k:Cast) (s:Step) (cells:List Cell):Level:=
 if s.act=0 then addLife L cells (-(s.n:Int))
 else if s.act=1 then addLife L cells (s.n:Int)
 else if s.act=2 then shoveAll (aimOf L k).caster true s.n L ((L.beings.filter λb=>cells.contains b.at_).map λb=>b.number)
 else if s.act=3 then shoveAll (aimOf L k).caster false s.n L ((L.beings.filter λb=>cells.contains b.at_).map λb=>b.number)
 else if s.act=4 then setGround L cells s.n
 else match L.beings.find? λb=>b.number == k.who with
  | some b=>if(cells.contains k.target&&free L k.target)=true then setBeing L (movedTo b k.target) else L
  | none=>L
theorem EM (L:Level) (k:Cast) (s:Step):doStep L k s=if J7 L k s=false then L else EL L k s (cellsIn L (aimOf L k) s.area):=rfl
theorem KP (L:Level) (cells:List Cell) (n:Int):j0 L (addLife L cells n):=MF _ (λb=>by split <;> rfl) λb=>by split <;> rfl
def S4 {L:Level} (wf:WF L) (k:Cast) (s:Step) (cells:List Cell):j0 L (EL L k s cells):=by
 unfold EL;split
 ·exact KP _ _ _
 split
 ·exact KP _ _ _
 split
 ·rw[uv _ _ _ _ L _ wf.nd BX]
  exact zl _ wf.nd
 split
 ·rw[uv _ _ _ _ L _ wf.nd BX]
  exact zl _ wf.nd
 split
 ·exact J6 wf _ _
 split
 ·rename_i b hb
  split
  ·rename_i hc
   rw[aB] at hc;obtain⟨i,hi⟩:=lH.mp (rO hb);rw[qk wf.nd hi (b':=movedTo b k.target) rfl];exact EK hi rfl λ_=>BW hc.2
  exact j0.refl L
 exact j0.refl L
def GL (wf:WF L) (k:Cast) (s:Step):j0 L (doStep L k s):=by
 rw[EM];split
 ·exact j0.refl L
 exact S4 wf k s _
theorem sW (k:Cast) :∀(l:Spell) {L:Level},WF L->j0 L (doAll k L l)
 | [],L,_=>j0.refl L
 | s::r,L,wf=>by
  have z:=GL wf k s;exact z.trans (sW k r (z.wf wf))
theorem uH (L:Level) (who:Nat) (n:Int):j0 L (payMana L who n):=MF _ (λb=>by split <;> rfl) λb=>by split <;> rfl
def Rx (h:WF L):WF (settled L):=by
 refine⟨h.w0,h.w1,h.h0,h.h1,h.gl,λb hb=>?_,?_,?_⟩
 ·obtain⟨x,hx,rfl⟩:=bX.mp hb
  exact h.ins x (lG.mp hx).1
 ·show((sL _ (L.beings.filter _)).map _).Nodup
  rw[bB];exact List.Nodup.sublist (List.Sublist.map _ xj) h.nd
 show(sL _ (L.beings.filter _)).length<=8;rw[ai];exact c8 (cY _ _) h.n8
theorem J8 (h:WF L) (k:Cast) (l:Spell):WF (castOn L k l):=
 Rx ((sW k l ((uH L _ _).wf h)).wf ((uH L _ _).wf h))
theorem MG {α : Type} (c:Nat->Bool) (v:α) (l:List α) :∀(n k:Nat),((ba n).foldl (λg i=>if c i=true then g.set i v else g) l)[k]?=if k < n/\c k=true then l[k]?.map (λ_=>v) else l[k]?
 | 0,k=>by simp
 | n+1,k=>by
  rw[dQ,gZ,fT,C2];have ih:=MG c v l n;by_cases hc:c n=true
  ·rw[if_pos hc,List.getElem?_set]
   by_cases e:n=k
   ·subst e
    have hl:((ba n).foldl (λg i=>if c i=true then g.set i v else g) l).length=l.length:=by
     clear ih hc
     induction n with
     | zero=>rfl
     | succ n ih=>
      rw[dQ,gZ,fT,C2];split
      ·rw[wR];exact ih
      exact ih
    rw[if_pos rfl,hl,if_pos (show n < n+1/\c n=true from⟨jo _,hc⟩)];by_cases hk:n < l.length
    ·rw[if_pos hk,aw hk];rfl
    rw[if_neg hk,dG (by lia)];rfl
   rw[if_neg e,ih k];by_cases h2:k < n/\c k=true
   ·rw[if_pos h2,if_pos ⟨by lia,h2.2⟩]
   rw[if_neg h2,if_neg (λq=>h2 ⟨by lia,q.2⟩)]
  rw[if_neg hc,ih k];by_cases h2:k < n/\c k=true
  ·rw[if_pos h2,if_pos ⟨by lia,h2.2⟩]
  rw[if_neg h2,if_neg (λq=>h2 ⟨by
   have:=q.1;rcases Nat.lt_or_ge k n with z | z
   ·exact z
   have e:k=n:=by lia
   subst e;exact absurd q.2 hc,q.2⟩)]
theorem zT {α : Type} (c:Nat->Bool) (v:α) (l:List α) :∀n:Nat,((ba n).foldl (λg i=>if c i=true then g.set i v else g) l).length=l.length
 | 0=>rfl
 | n+1=>by
  rw[dQ,gZ,fT,C2];split
  ·rw[wR];exact zT c v l n
  exact zT c v l n
def MH {α β : Type} {l:List α} {r:List β} {k:Nat} {a:α} {b:β} (h1:l[k]?=some a) (h2:r[k]?=some b):(l.zip r)[k]?=some (a,b):=by
 rw[List.getElem?_zip_eq_some];exact⟨h1,h2⟩
def J9 {L:Level} (wf:WF L) {p:Cell->Bool} (g:Nat) :
  (setGround L ((cellsOf L).filter p) g).ground=(ba (L.w * L.h)).foldl (λl i=>if(p (cellAt L.w i)&&(g != 0 || (beingAt L (cellAt L.w i)).isNone))=true then l.set i g else l) L.ground:=by
 apply fi;intro k;rw[MG (λi=>p (cellAt L.w i)&&(g != 0 || (beingAt L (cellAt L.w i)).isNone))];show(((cellsOf L).zip L.ground).map _)[k]?=_;rw[aA];by_cases hk:k < L.w * L.h
 ·have h1:(cellsOf L)[k]?=some (cellAt L.w k):=by
   rw[oj L wf.lZ,aA,fc hk];rfl
  obtain⟨x,h2⟩ :∃x,L.ground[k]?=some x:=⟨_,aw (by rw[wf.gl];exact hk)⟩
  rw[MH h1 h2,h2];have hc:((cellsOf L).filter p).contains (cellAt L.w k)=p (cellAt L.w k):=contains_filter (aP h1);simp only[Option.map_some,hc];by_cases c:(p (cellAt L.w k)&&(g != 0 || (beingAt L (cellAt L.w k)).isNone))=true
  ·have c0:=c
   rw[aB,oh] at c;have q0:p (cellAt L.w k)=true/\¬(g=0/\(beingAt L (cellAt L.w k)).isSome=true):=by
    refine⟨c.1,λq=>?_⟩;rcases c.2 with z | z
    ·simp[q.1] at z
    cases e:beingAt L (cellAt L.w k) <;> simp[e] at z q
   rw[if_pos q0,if_pos (show k < L.w * L.h/\_ from⟨hk,c0⟩)]
  have q0:¬ (p (cellAt L.w k)=true/\¬(g=0/\(beingAt L (cellAt L.w k)).isSome=true)):=by
   intro q;apply c;rw[aB,oh];refine⟨q.1,?_⟩;by_cases z:g=0
   ·right
    cases e:beingAt L (cellAt L.w k) with
    | none=>rfl
    | some b=>exact absurd ⟨z,by simp[e]⟩ q.2
   left;simpa using z
  rw[if_neg q0,if_neg (show ¬ (k < L.w * L.h/\_) from λq=>c q.2)]
 rw[if_neg (λq=>hk q.1),dG (by rw[BO,EF L wf.lZ,wf.gl];lia),dG (by rw[wf.gl];lia)];rfl
def EN {L:Level} (h:WF L) (k:Cast) (l:Spell) :∀b∈(castOn L k l).beings,∃a,byNumber L b.number=some a:=by
 intro b hb;obtain⟨x,hx,rfl⟩:=bX.mp hb;have ID:=(lG.mp hx).1;have e:(doAll k (payMana L k.who (cost L.w L.h l:Int)) l).beings.map (·.number)=L.beings.map (·.number):=
  (sW k l ((uH L _ _).wf h)).nums.trans (uH L _ _).nums
 have m:x.number∈L.beings.map (·.number):=by rw[<- e];exact bX.mpr ⟨x,ID,Z⟩
 obtain⟨a,ha,ea⟩:=bX.mp m;obtain⟨i,hi⟩:=lH.mp ha;refine⟨a,?_⟩;show L.beings.find? (λy=>y.number == x.number)=some a;rw[<- ea];exact ud h.nd hi
end Sp
namespace Sp
open Vbrgah
def brk (p:Bytes × Nat) (asked:Nat):Bytes:=if p.2 < asked then 40::(p.1++[41]) else p.1
def iS:Alg (Bytes × Nat) where
 sim k n:=(SIMPLE.getD k []++(if 5<=k/\k<=7 then 32::decimal n else []),3)
 no p:=(text "not " ++ brk p 3,3)
 grow p:=(text "grow " ++ brk p 3,3)
 both p q:=(brk p 2++(text " & " ++ brk q 3),2)
 either p q:=(brk p 1++(text " | " ++ brk q 2),1)
def u4 (a:Area) (b:Bytes) (n:Nat):brk (b,strength a+1) (n+1)=guarded n a b:=by
 unfold brk guarded;by_cases h:strength a < n
 ·rw[if_pos h,if_pos (show strength a+1 < n+1 by lia)]
 rw[if_neg h,if_neg (show ¬ strength a+1 < n+1 by lia)]
theorem Bl :∀a:Area,ev iS a=(shown a,strength a+1)
 | .basic k n=>rfl
 | .no a=>by
  show iS.no (ev iS a)=_;rw[Bl a];show(text "not " ++ brk _ 3,3)=_;rw[u4 a _ 2];rfl
 | .grow a=>by
  show iS.grow (ev iS a)=_;rw[Bl a];show(text "grow " ++ brk _ 3,3)=_;rw[u4 a _ 2];rfl
 | .both a b=>by
  show iS.both (ev iS a) (ev iS b)=_;rw[Bl a,Bl b];show(brk _ 2++(text " & " ++ brk _ 3),2)=_;rw[u4 a _ 1,u4 b _ 2];rfl
 | .either a b=>by
  show iS.either (ev iS a) (ev iS b)=_;rw[Bl a,Bl b];show(brk _ 1++(text " | " ++ brk _ 2),1)=_;rw[u4 a _ 0,u4 b _ 1];have e:guarded 0 a (shown a)=shown a:=by
   unfold guarded;rw[if_neg (BK _)]
  rw[e];rfl
def vH (w h:Nat):Alg Nat where
 sim k n:=bound w h (.basic k n)
 no _:=w * h
 grow x:=min (9 * x) (w * h)
 both x y:=min x y
 either x y:=min (x+y) (w * h)
theorem Gg (w h:Nat) :∀a:Area,ev (vH w h) a=bound w h a
 | .basic _ _=>rfl
 | .no _=>rfl
 | .grow a=>by
  show min (9 * ev (vH w h) a) (w * h)=_;rw[Gg w h a];rfl
 | .both a b=>by
  show min (ev (vH w h) a) (ev (vH w h) b)=_;rw[Gg w h a,Gg w h b];rfl
 | .either a b=>by
  show min (ev (vH w h) a+ev (vH w h) b) (w * h)=_;rw[Gg w h a,Gg w h b];rfl
def rE (w:Nat) (l:List Bool):List Bool:=(ba l.length).map (vF w l.length λj=>l.getD j false)
def vJ (L:Level) (m:Aim):Alg (List Bool) where
 sim k n:=mask L (has L m (.basic k n))
 no l:=l.map λb=>!b
 grow l:=rE L.w l
 both l r:=(ba l.length).map λi=>l.getD i false&&r.getD i false
 either l r:=(ba l.length).map λi=>l.getD i false || r.getD i false
def rS (h:k < L.w * L.h):(mask L p).getD k false=p (cellAt L.w k):=by
 rw[bY,uZ h];rfl
def Dc {w:Nat} (hw:0 < w) (hwn:w ∣ n) (hk:k < n) (h :∀j,j < n->f j=g j):wide w f k=wide w g k:=by
 unfold wide;rw[h k hk];congr 1;congr 1
 ·rw[h (k - 1) (by lia)]
 by_cases q:k % w < w - 1
 ·rw[h (k+1) ?_]
  obtain⟨m,rfl⟩:=hwn;have a:=gG k w;have d:k / w+1<=m:=ua hk;have e:w * (k / w+1)<=w * m:=g8 w d;rw[mP] at e
  lia
 rw[decide_eq_false q];rfl
def OY {w h:Nat} (hw:0 < w) (hk:k < w * h) (e :∀j,j < w * h->f j=g j):vF w (w * h) f k=vF w (w * h) g k:=by
 have d:w ∣ w * h:=Nat.dvd_mul_right w h;unfold vF;rw[Dc hw d hk e];congr 1;congr 1
 ·rw[Dc hw d (show k - w < w * h by lia) e]
 by_cases q:k+w < w * h
 ·rw[Dc hw d q e]
 rw[decide_eq_false q];rfl
def KQ (hw:0 < L.w) (p:Cell->Bool):rE L.w (mask L p)=mask L λc=>(cellsOf L).any λd=>p d&&decide (far c d<=1):=by
 unfold rE;rw[gs];unfold mask;apply cP;intro k hk;have ub:=eW.mp hk;show _=(cellsOf L).any λd=>p d&&decide (far (cellAt L.w k) d<=1);rw[<- S3 hw ub];exact OY hw ub λj hj=>rS hj
theorem Dd (hw:0 < L.w) (m:Aim) :∀a:Area,ev (vJ L m) a=mask L (has L m a)
 | .basic _ _=>rfl
 | .no a=>by
  show(ev (vJ L m) a).map (λb=>!b)=_;rw[Dd hw m a];unfold mask;rw[bB];rfl
 | .grow a=>by
  show rE L.w (ev (vJ L m) a)=_;rw[Dd hw m a,KQ hw];rfl
 | .both a b=>by
  show(ba (ev (vJ L m) a).length).map _=_;rw[Dd hw m a,Dd hw m b,gs];unfold mask;apply cP;intro k hk;have ub:=eW.mp hk;show((mask L (has L m a)).getD k false&&(mask L (has L m b)).getD k false)=_;rw[rS ub,rS ub];rfl
 | .either a b=>by
  show(ba (ev (vJ L m) a).length).map _=_;rw[Dd hw m a,Dd hw m b,gs];unfold mask;apply cP;intro k hk;have ub:=eW.mp hk;show((mask L (has L m a)).getD k false || (mask L (has L m b)).getD k false)=_;rw[rS ub,rS ub];rfl
def VC (hw:0 < L.w) (t:Cell) (n:Nat):(ba (L.w * L.h)).map (λi=>(mask L (uc L t n)).getD i false || ((rE L.w (mask L (uc L t n))).getD i false&&L.ground.getD i 0 != 0))=mask L (uc L t (n+1)):=by
 rw[KQ hw]
 conv=>rhs;unfold mask
 apply cP;intro k hk;have ub:=eW.mp hk;rw[rS ub,rS ub,<- Bk hw ub];show _=(uc L t n (cellAt L.w k) || (groundAt L (cellAt L.w k) != 0&&(cellsOf L).any λd=>uc L t n d&&decide (far (cellAt L.w k) d<=1)));rw[Bool.and_comm]
end Sp
namespace Sp
def EO (h:d7 cZ f []=some cs):cs=[]:=by
 cases f <;> (simp[d7] at h;exact h)
def IK (h:d7 cZ (f+1) (p::r)=some cs) :
  ∃n k xs t cs',cZ p=some (n,k)/\n<=r.length/\oH k (r.drop n)=some (xs,t)/\cs=((p::r.take n)::xs)::cs'/\d7 cZ f t=some cs':=by
 rw[d7] at h;split at h
 ·cases h
 rename_i c t e;split at h
 ·cases h
 rename_i cs' e2;rw[PyFlat.call] at e;split at e
 ·cases e
 rename_i n k es;split at e
 ·cases e
 rename_i hn;split at e
 ·cases e
 rename_i xs t' er;cases e;cases h;exact⟨n,k,xs,t,cs',es,by lia,er,Z,e2⟩
def Ry (h:d7 cZ f (p::r)=some cs) :
  ∃n k xs t cs' f',cZ p=some (n,k)/\n<=r.length/\oH k (r.drop n)=some (xs,t)/\cs=((p::r.take n)::xs)::cs'/\d7 cZ f' t=some cs':=by
 cases f with
 | zero=>simp[d7] at h
 | succ f=>
  obtain⟨n,k,xs,t,cs',es,hn,er,e1,e2⟩:=IK h;exact⟨n,k,xs,t,cs',f,es,hn,er,e1,e2⟩
def KR (h:oH 0 r=some (xs,t)):xs=[]/\t=r:=by
 rw[oH] at h;cases h;exact⟨Z,Z⟩
def MI (h:oH 1 r=some (xs,t)) :∃m r',r=m::r'/\0<=m/\m.toNat<=r'.length/\xs=[r'.take m.toNat]/\t=r'.drop m.toNat:=by
 rw[oH] at h;split at h
 ·cases h
 rename_i x s e;rw[oH] at h;cases h;unfold PyFlat.row at e;split at e
 ·cases e
 rename_i m r';split at e
 ·rename_i q
  cases e;exact⟨m,r',Z,q.1,q.2,Z,Z⟩
 cases e
def GN (h:cZ p=some (n,k)) :
  (p=0/\n=2/\k=1)\/(p=1/\n=6/\k=0)\/(p=2/\n=0/\k=1)\/(p=3/\n=0/\k=1)\/(p=4/\n=0/\k=1)\/(p=5/\n=3/\k=1)\/(p=6/\n=3/\k=1)\/(p=7/\n=3/\k=1)\/
  (p=8/\n=0/\k=1)\/(p=9/\n=0/\k=1)\/(p=10/\n=0/\k=1)\/(p=11/\n=0/\k=0)\/(p=12/\n=1/\k=0)\/(p=13/\n=0/\k=0)\/(p=14/\n=0/\k=0):=by
 unfold cZ at h;by_cases e0:p=0
 ·rw[if_pos e0] at h;cases h;exact .inl ⟨e0,Z,Z⟩
 rw[if_neg e0] at h;by_cases e1:p=1
 ·rw[if_pos e1] at h;cases h;exact .inr (.inl ⟨e1,Z,Z⟩)
 rw[if_neg e1] at h;by_cases e2:p=2
 ·rw[if_pos e2] at h;cases h;exact .inr (.inr (.inl ⟨e2,Z,Z⟩))
 rw[if_neg e2] at h;by_cases e3:p=3
 ·rw[if_pos e3] at h;cases h;exact .inr (.inr (.inr (.inl ⟨e3,Z,Z⟩)))
 rw[if_neg e3] at h;by_cases e4:p=4
 ·rw[if_pos e4] at h;cases h;exact .inr (.inr (.inr (.inr (.inl ⟨e4,Z,Z⟩))))
 rw[if_neg e4] at h;by_cases e5:p=5
 ·rw[if_pos e5] at h;cases h;exact .inr (.inr (.inr (.inr (.inr (.inl ⟨e5,Z,Z⟩)))))
 rw[if_neg e5] at h;by_cases e6:p=6
 ·rw[if_pos e6] at h;cases h;exact .inr (.inr (.inr (.inr (.inr (.inr (.inl ⟨e6,Z,Z⟩))))))
 rw[if_neg e6] at h;by_cases e7:p=7
 ·rw[if_pos e7] at h;cases h;exact .inr (.inr (.inr (.inr (.inr (.inr (.inr (.inl ⟨e7,Z,Z⟩)))))))
 rw[if_neg e7] at h;by_cases e8:p=8
 ·rw[if_pos e8] at h;cases h;exact .inr (.inr (.inr (.inr (.inr (.inr (.inr (.inr (.inl ⟨e8,Z,Z⟩))))))))
 rw[if_neg e8] at h;by_cases e9:p=9
 ·rw[if_pos e9] at h;cases h;exact .inr (.inr (.inr (.inr (.inr (.inr (.inr (.inr (.inr (.inl ⟨e9,Z,Z⟩)))))))))
 rw[if_neg e9] at h;by_cases e10:p=10
 ·rw[if_pos e10] at h;cases h;exact .inr (.inr (.inr (.inr (.inr (.inr (.inr (.inr (.inr (.inr (.inl ⟨e10,Z,Z⟩))))))))))
 rw[if_neg e10] at h;by_cases e11:p=11
 ·rw[if_pos e11] at h;cases h;exact .inr (.inr (.inr (.inr (.inr (.inr (.inr (.inr (.inr (.inr (.inr (.inl ⟨e11,Z,Z⟩)))))))))))
 rw[if_neg e11] at h;by_cases e12:p=12
 ·rw[if_pos e12] at h;cases h;exact .inr (.inr (.inr (.inr (.inr (.inr (.inr (.inr (.inr (.inr (.inr (.inr (.inl ⟨e12,Z,Z⟩))))))))))))
 rw[if_neg e12] at h;by_cases e13:p=13
 ·rw[if_pos e13] at h;cases h;exact .inr (.inr (.inr (.inr (.inr (.inr (.inr (.inr (.inr (.inr (.inr (.inr (.inr (.inl ⟨e13,Z,Z⟩)))))))))))))
 rw[if_neg e13] at h;by_cases e14:p=14
 ·rw[if_pos e14] at h;cases h;exact .inr (.inr (.inr (.inr (.inr (.inr (.inr (.inr (.inr (.inr (.inr (.inr (.inr (.inr ⟨e14,Z,Z⟩)))))))))))))
 rw[if_neg e14] at h;cases h
def Y7 (h:n+1<=r.length) :∃a t,r=a::t/\n<=t.length:=by
 cases r with
 | nil=>cases h
 | cons a t=>exact⟨a,t,Z,Nat.le_of_succ_le_succ h⟩
def VD {p:Int} {n k:Nat} {r t:List Int} {xs:List (List Int)} (h:cZ p=some (n,k)) (hn:n<=r.length) (hr:oH k (r.drop n)=some (xs,t)):PyVbrgah.whole ((p::r.take n)::xs)=(p::r.take n)::xs:=by
 rcases GN h with⟨rfl,rfl,rfl⟩ | ⟨rfl,rfl,rfl⟩ | ⟨rfl,rfl,rfl⟩ | ⟨rfl,rfl,rfl⟩ | ⟨rfl,rfl,rfl⟩ | ⟨rfl,rfl,rfl⟩ | ⟨rfl,rfl,rfl⟩ | ⟨rfl,rfl,rfl⟩ | ⟨rfl,rfl,rfl⟩ | ⟨rfl,rfl,rfl⟩ | ⟨rfl,rfl,rfl⟩ | ⟨rfl,rfl,rfl⟩ | ⟨rfl,rfl,rfl⟩ | ⟨rfl,rfl,rfl⟩ | ⟨rfl,rfl,rfl⟩;all_goals first | obtain⟨m,q,-,-,-,rfl,-⟩:=MI hr | obtain⟨rfl,-⟩:=KR hr
 all_goals clear h hr;(repeat (replace hn:=Y7 hn;obtain⟨_,r,rfl,hn⟩:=hn));rfl
def S5 :∀{f:Nat} {l:List Int} {cs:List (List (List Int))},d7 cZ f l=some cs->cs.map PyVbrgah.whole=cs:=by
 intro f
 induction f with
 | zero=>
  intro l cs h;cases l with
  | nil=>rw[EO h];rfl
  | cons p r=>simp[d7] at h
 | succ f ih=>
  intro l cs h;cases l with
  | nil=>rw[EO h];rfl
  | cons p r=>
   obtain⟨n,k,xs,t,cs',es,hn,er,rfl,e2⟩:=IK h;rw[cv,VD es hn er,ih e2]
def VE (h:C3 l=some cs):d7 cZ l.length l=some cs:=by
 unfold C3 at h;cases e:d7 cZ l.length l with
 | none=>rw[e] at h;cases h
 | some cs'=>
  rw[e] at h;cases h;rw[S5 e]
end Sp
namespace Sp
open Vbrgah
theorem same_iff :∀(a b:Area),sameArea a b=true↔a=b
 | .basic j m,.basic k n=>by simp[sameArea]
 | .no a,.no b=>by simp[sameArea,same_iff a b]
 | .grow a,.grow b=>by simp[sameArea,same_iff a b]
 | .both a b,.both c d=>by simp[sameArea,same_iff a c,same_iff b d]
 | .either a b,.either c d=>by simp[sameArea,same_iff a c,same_iff b d]
 | .basic _ _,.no _ | .basic _ _,.grow _ | .basic _ _,.both _ _ | .basic _ _,.either _ _=>by simp[sameArea]
 | .no _,.basic _ _ | .no _,.grow _ | .no _,.both _ _ | .no _,.either _ _=>by simp[sameArea]
 | .grow _,.basic _ _ | .grow _,.no _ | .grow _,.both _ _ | .grow _,.either _ _=>by simp[sameArea]
 | .both _ _,.basic _ _ | .both _ _,.no _ | .both _ _,.grow _ | .both _ _,.either _ _=>by simp[sameArea]
 | .either _ _,.basic _ _ | .either _ _,.no _ | .either _ _,.grow _ | .either _ _,.both _ _=>by simp[sameArea]
def zm:Alg Area:=⟨.basic,.no,.grow,.both,.either⟩
theorem Bm :∀a:Area,ev zm a=a
 | .basic _ _=>rfl
 | .no a=>by show Area.no (ev zm a)=_;rw[Bm a]
 | .grow a=>by show Area.grow (ev zm a)=_;rw[Bm a]
 | .both a b=>by show Area.both (ev zm a) (ev zm b)=_;rw[Bm a,Bm b]
 | .either a b=>by show Area.either (ev zm a) (ev zm b)=_;rw[Bm a,Bm b]
def Y8 (h:aQ a=aQ b):a=b:=by
 have h1:=mm zm a [];have h2:=mm zm b [];rw[h,h2] at h1;have:=bN.inj h1;rw[Bm,Bm] at this;exact(vB.inj this).1.symm
def zU (a b:Area):sameArea a b=decide (aQ a=aQ b):=by
 rw[ib,same_iff,decide_eq_true_iff];exact⟨λh=>by rw[h],Y8⟩
theorem Y9 (a:Area):isAll a=decide (aQ a=[.sim 4 0]):=zU a (.basic 4 0)
def fJ (l:List Itm):Int:=(l.map λi=>(arity i:Int) - 1).sum
def p5 (l r:List Itm):fJ (l++r)=fJ l+fJ r:=by simp[fJ]
def MJ (iha:fJ (aQ a) = -1/\∀k,0 < k->0<=fJ ((aQ a).drop k)) (ihb:fJ (aQ b) = -1/\∀k,0 < k->0<=fJ ((aQ b).drop k)) (ho:arity op=2) :
  fJ (aQ a++(aQ b++[op])) = -1/\∀k,0 < k->0<=fJ ((aQ a++(aQ b++[op])).drop k):=by
 have e1:fJ [op]=1:=by simp[fJ,ho]
 refine⟨by rw[p5,p5,iha.1,ihb.1,e1];rfl,λk hk=>?_⟩;rw[uW,p5,uW,p5];have z:=iha.2 k hk;by_cases h1:k - (aQ a).length=0
 ·rw[h1,pV,ihb.1,Nat.zero_sub,pV,e1];lia
 have y:=ihb.2 (k - (aQ a).length) (by lia);have x:0<=fJ (([op]).drop (k - (aQ a).length - (aQ b).length)):=by
  cases k - (aQ a).length - (aQ b).length with
  | zero=>rw[pV,e1];decide
  | succ n=>simp[fJ]
 lia
theorem uI :∀a:Area,fJ (aQ a) = -1/\∀k,0 < k->0<=fJ ((aQ a).drop k)
 | .basic k n=>by
  refine⟨by simp[aQ,fJ,arity],λk hk=>?_⟩;obtain⟨j,rfl⟩ :∃j,k=j+1:=⟨k - 1,by lia⟩
  simp[aQ,fJ]
 | .no a=>by
  have ih:=uI a;have e1:fJ [Itm.no]=0:=rfl;refine⟨by show fJ (aQ a++[Itm.no])=_;rw[p5,ih.1,e1];rfl,λk hk=>?_⟩;show 0<=fJ ((aQ a++[Itm.no]).drop k);rw[uW,p5];have z:=ih.2 k hk;have y:0<=fJ (([Itm.no]).drop (k - (aQ a).length)):=by
   cases k - (aQ a).length with
   | zero=>exact Int.le_refl _
   | succ n=>simp[fJ]
  lia
 | .grow a=>by
  have ih:=uI a;have e1:fJ [Itm.grow]=0:=rfl;refine⟨by show fJ (aQ a++[Itm.grow])=_;rw[p5,ih.1,e1];rfl,λk hk=>?_⟩;show 0<=fJ ((aQ a++[Itm.grow]).drop k);rw[uW,p5];have z:=ih.2 k hk;have y:0<=fJ (([Itm.grow]).drop (k - (aQ a).length)):=by
   cases k - (aQ a).length with
   | zero=>exact Int.le_refl _
   | succ n=>simp[fJ]
  lia
 | .both a b=>MJ (op:=.both) (uI a) (uI b) rfl
 | .either a b=>MJ (op:=.either) (uI a) (uI b) rfl
def S6 {l:List Itm} {k:Nat} {it:Itm} (h:l[k]?=some it):fJ (l.drop k)=((arity it:Int) - 1)+fJ (l.drop (k+1)):=by
 obtain⟨hk,e⟩:=az.mp h;rw[<- gX hk,e];simp[fJ]
def mS:Alg Area:=⟨.basic,tidyNo,λx=>if isAll x=true then x else .grow x,tidyBoth,tidyEither⟩
theorem Df :∀a:Area,ev mS a=tidy a
 | .basic _ _=>rfl
 | .no a=>by show tidyNo (ev mS a)=_;rw[Df a];rfl
 | .grow a=>by
  show(if isAll (ev mS a)=true then ev mS a else .grow (ev mS a))=_;rw[Df a];rfl
 | .both a b=>by show tidyBoth (ev mS a) (ev mS b)=_;rw[Df a,Df b];rfl
 | .either a b=>by show tidyEither (ev mS a) (ev mS b)=_;rw[Df a,Df b];rfl
def ue (n:Nat) (a:Area):Prop:=nJ a/\(aQ a).length<=n
def XM (h:ue n a):ue (n+1) (tidyNo a):=by
 unfold tidyNo;split
 ·exact⟨h.1,by have z:=h.2;simp[aQ] at z;lia⟩
 exact⟨h.1,by have z:=h.2;simp[aQ];lia⟩
def Pu (h:ue n a):ue (n+1) (if isAll a=true then a else .grow a):=by
 split
 ·exact⟨h.1,by have z:=h.2;lia⟩
 exact⟨h.1,by have z:=h.2;simp[aQ];lia⟩
def Pw (h:ue m a) (k:ue n b):ue (m+n+1) (tidyBoth a b):=by
 have h2:=h.2;have k2:=k.2;have ha:ue (m+n+1) a:=⟨h.1,by lia⟩
 have hb:ue (m+n+1) b:=⟨k.1,by lia⟩
 have MK:ue (m+n+1) (.both a b):=⟨⟨h.1,k.1⟩,by simp[aQ];lia⟩
 unfold tidyBoth;split
 ·exact hb
 split
 ·exact ha
 split
 ·split
  ·exact ha
  exact MK
 exact MK
def KS (h:ue m a) (k:ue n b):ue (m+n+1) (tidyEither a b):=by
 have h2:=h.2;have k2:=k.2;have ha:ue (m+n+1) a:=⟨h.1,by lia⟩
 have hb:ue (m+n+1) b:=⟨k.1,by lia⟩
 have MK:ue (m+n+1) (.either a b):=⟨⟨h.1,k.1⟩,by simp[aQ];lia⟩
 unfold tidyEither;split
 ·exact⟨⟨by decide,by decide,.inl rfl⟩,by simp[aQ]⟩
 split
 ·exact ha
 split
 ·split
  ·exact ha
  exact MK
 exact MK
theorem qW :∀{a:Area},nJ a->ue (aQ a).length (tidy a)
 | .basic _ _,h=>⟨h,aN _⟩
 | .no a,h=>by
  have z:=XM (qW (a:=a) h);show ue (aQ a++[Itm.no]).length _;rw[ay];exact z
 | .grow a,h=>by
  have z:=Pu (qW (a:=a) h);show ue (aQ a++[Itm.grow]).length _;rw[ay];exact z
 | .both a b,h=>by
  have z:=Pw (qW (a:=a) h.1) (qW (a:=b) h.2);show ue (aQ a++(aQ b++[Itm.both])).length _;rw[ay,ay,<- Nat.add_assoc];exact z
 | .either a b,h=>by
  have z:=KS (qW (a:=a) h.1) (qW (a:=b) h.2);show ue (aQ a++(aQ b++[Itm.either])).length _;rw[ay,ay,<- Nat.add_assoc];exact z
def GO:Itm->Bool
 | .sim k _=>k == 0 || (k == 2 || (k == 3 || decide (13<=k)))
 | _=>false
def GP:Itm->Bool
 | .sim k _=>k == 3 || (k == 7 || (decide (8<=k)&&decide (k<=12)))
 | _=>false
theorem yc :∀a:Area,(aQ a).any GO=readsPlaces a
 | .basic k n=>by simp[aQ,GO,readsPlaces]
 | .no a=>by simp[aQ,GO,readsPlaces,yc a]
 | .grow a=>by simp[aQ,GO,readsPlaces,yc a]
 | .both a b=>by simp[aQ,GO,readsPlaces,yc a,yc b]
 | .either a b=>by simp[aQ,GO,readsPlaces,yc a,yc b]
theorem yd :∀a:Area,(aQ a).any GP=readsGround a
 | .basic k n=>by simp[aQ,GP,readsGround]
 | .no a=>by simp[aQ,GP,readsGround,yd a]
 | .grow a=>by simp[aQ,GP,readsGround,yd a]
 | .both a b=>by simp[aQ,GP,readsGround,yd a,yd b]
 | .either a b=>by simp[aQ,GP,readsGround,yd a,yd b]
def o8 (sp:Spell) (i:Nat):List Int:=match sp.drop i with
 | []=>[]
 | s::r=>r.map λt=>bit (apart s t)
def BY (sp:Spell):pairs sp=(ba sp.length).flatMap (o8 sp):=by
 induction sp with
 | nil=>rfl
 | cons s r ih=>
  rw[aV,kN,ze,List.flatMap_map];show(r.map λt=>bit (apart s t))++pairs r=_;rw[ih];rfl
end Sp
namespace L2
open PySem PySem.Spec PyProof.Rows
abbrev Key:=Sum Int Str
def Gh:Key->Value->Bool
 | .inl k,v=>Value.isInt k v
 | .inr x,v=>Value.isStrOf x v
def agL (w:World):Key->Int
 | .inl k=>hashInt k
 | .inr x=>hashStr w x
theorem kG :∀{k:Key} {v:Value},Gh k v=true->(∃i t,k=Sum.inl i/\v=Value.int i t)\/(∃x t,k=Sum.inr x/\v=Value.str x t)
 | .inl i,v,h=>by
  obtain⟨t,e⟩:=Value.isInt_shape (k:=i) (v:=v) h;exact .inl ⟨i,t,Z,e⟩
 | .inr x,v,h=>by
  obtain⟨t,e⟩:=Value.isStrOf_shape (x:=x) (v:=v) h;exact .inr ⟨x,t,Z,e⟩
def S7 (i:Int) (t:Tok):Gh (.inl i) (.int i t)=true:=by simp[Gh,Value.isInt]
def S8 (x:Str) (t:Tok):Gh (.inr x) (.str x t)=true:=by simp[Gh,Value.isStrOf]
def aaS (a b:Int):decide ((Sum.inl a:Key)=Sum.inl b)=(a == b):=by
 by_cases e:a=b
 ·subst e;simp
 have h:¬ (Sum.inl a:Key)=Sum.inl b:=λq=>e (Sum.inl.inj q);rw[decide_eq_false h];exact(beq_eq_false_iff_ne.mpr e).symm
def aaT (a b:Str):decide ((Sum.inr a:Key)=Sum.inr b)=decide (a=b):=by
 by_cases e:a=b
 ·subst e;simp
 have h:¬ (Sum.inr a:Key)=Sum.inr b:=λq=>e (Sum.inr.inj q);rw[decide_eq_false h,decide_eq_false e]
theorem aaU (a:Int) (b:Str):decide ((Sum.inl a:Key)=Sum.inr b)=false:=decide_eq_false (λq=>nomatch q)
theorem aaV (a:Str) (b:Int):decide ((Sum.inr a:Key)=Sum.inl b)=false:=decide_eq_false (λq=>nomatch q)
def lq (prog:Program) (w:World):PySem.KeyKind prog w Key where
 is:=Gh
 hash:=agL w
 inj:=λv a b ha hb=>by
  rcases kG ha with⟨i,t,rfl,rfl⟩ | ⟨x,t,rfl,rfl⟩
  ·rcases kG hb with⟨j,u,rfl,e⟩ | ⟨y,u,rfl,e⟩
   ·injection e with e1 _;rw[e1]
   exact nomatch e
  rcases kG hb with⟨j,u,rfl,e⟩ | ⟨y,u,rfl,e⟩
  ·exact nomatch e
  injection e with e1 _;rw[e1]
 byValue:=λk v h=>by
  rcases kG h with⟨i,t,rfl,rfl⟩ | ⟨x,t,rfl,rfl⟩ <;> rfl
 pyHash:=λhv h=>by
  rcases kG hv with⟨i,t,rfl,rfl⟩ | ⟨x,t,rfl,rfl⟩
  ·exact wpAny_pyHash_int h
  exact wpAny_pyHash_str h
 eqBool:=λhu hv h=>by
  rcases kG hu with⟨i,t,rfl,rfl⟩ | ⟨x,t,rfl,rfl⟩
  ·rcases kG hv with⟨j,u,rfl,rfl⟩ | ⟨y,u,rfl,rfl⟩
   ·rw[aaS] at h;exact wpAny_eqBool_int h
   rw[aaU] at h;exact eX.int_str i t y u _ _ _ _ h
  rcases kG hv with⟨j,u,rfl,rfl⟩ | ⟨y,u,rfl,rfl⟩
  ·rw[aaV] at h;exact eX.str_int x t j u _ _ _ _ h
  rw[aaT] at h;exact wpAny_eqBool_str h
 «strs»:=λk x t v h=>by
  rcases kG h with⟨i,u,rfl,e⟩ | ⟨y,u,rfl,e⟩
  ·exact nomatch e
  injection e with e1 _;subst e1;cases v <;> rfl
theorem OZ (prog:Program) (w:World) (i:Int) (t:Tok):(lq prog w).is (.inl i) (.int i t)=true:=S7 i t
theorem O0 (prog:Program) (w:World) (x:Str) (t:Tok):(lq prog w).is (.inr x) (.str x t)=true:=S8 x t
inductive V where
 | cj | bl (b:Bool) | int (i:Int) | str (x:Str) | vK (b:Array UInt8) | S9 (b:UInt64) | ref (a:Addr) | ty (n:String)
 deriving DecidableEq
def RelV:V->Value->Prop
 | .cj,u=>u=Value.none
 | .bl b,u=>u=Value.bool b
 | .int i,u=>∃t,u=Value.int i t
 | .str x,u=>∃t,u=Value.str x t
 | .vK b,u=>∃t,u=Value.bytes b t
 | .S9 b,u=>∃t,u=Value.float b t
 | .ref a,u=>u=Value.ref a
 | .ty n,u=>u=Value.type n
abbrev Vals:List V->List Value->Prop:=Paired RelV
theorem Vals.length {xs:List V} {us:List Value} (r:Vals xs us):xs.length=us.length:=Paired.length r
theorem Vals.get :∀{xs:List V} {us:List Value} {i:Nat} {x:V},Vals xs us->xs[i]?=some x->∃u,us[i]?=some u/\RelV x u
 | _,_,_,_,.nil,e=>by simp at e
 | _,_,0,_,.cons r _,e=>by simp at e;subst e;exact⟨_,Z,r⟩
 | _,_,i+1,x,.cons _ t,e=>by
  obtain⟨u,h1,h2⟩:=Vals.get (i:=i) (x:=x) t (by simpa using e);exact⟨u,by simpa using h1,h2⟩
theorem Vals.set {x:V} {u:Value} (r:RelV x u) :∀{xs:List V} {us:List Value} (i:Nat),Vals xs us->Vals (xs.set i x) (us.set i u)
 | _,_,_,.nil=>.nil
 | _,_,0,.cons _ t=>.cons r t
 | _,_,i+1,.cons q t=>.cons q (Vals.set r i t)
theorem Vals.append :∀{xs ys:List V} {us ws:List Value},Vals xs us->Vals ys ws->Vals (xs++ys) (us++ws)
 | _,_,_,_,.nil,s=>s
 | _,_,_,_,.cons r t,s=>.cons r (Vals.append t s)
theorem Vals.take :∀{xs:List V} {us:List Value} (n:Nat),Vals xs us->Vals (xs.take n) (us.take n)
 | _,_,0,_=>.nil
 | _,_,_+1,.nil=>.nil
 | _,_,n+1,.cons r t=>.cons r (Vals.take n t)
theorem Vals.drop :∀{xs:List V} {us:List Value} (n:Nat),Vals xs us->Vals (xs.drop n) (us.drop n)
 | _,_,0,r=>r
 | _,_,_+1,.nil=>.nil
 | _,_,n+1,.cons _ t=>Vals.drop n t
def rT:Option V->Option Value->Prop
 | some v,some u=>RelV v u
 | none,none=>True
 | _,_=>False
def KV {κ : Type}:List (κ × V)->List (κ × Value)->Prop:=Paired λ(p:κ × V) (q:κ × Value)=>p.1=q.1/\RelV p.2 q.2
def kV:Key->V
 | .inl i=>.int i
 | .inr x=>.str x
inductive HO where
 | lst (xs:List V)
 | tup (xs:List V)
 | dK (fV:List (Key × V)) | dT (fV:List (List Key × V))
 | set (S:Int->Bool) (n:Nat)
 | ins (C dx:Addr) (fs:List (Str × V))
 | own (x:Addr)
 | xd (fs:List (Str × V))
 | met (f x:Addr)
 | XN (lo hi:Int)
 | u5 (o:Obj) (u:HO)
 | ER (ps:Array Value)
 | ext (φ : Heap->Prop)
abbrev Hp:=Addr->Option HO
def aX (H:Hp) (a:Addr) (o:HO):Hp:=λb=>if b=a then some o else H b
def ah {H:Hp} {a:Addr} {o:HO}:aX H a o a=some o:=by unfold aX;rw[if_pos rfl]
def au {H:Hp} {a b:Addr} {o:HO} (h:b≠a):aX H a o b=H b:=by unfold aX;rw[if_neg h]
def ij:aX (aX H a o) a u=aX H a u:=by
 funext b;unfold aX;split <;> rfl
def cN {H:Hp} {a b:Addr} {o u:HO} (h:H a=some o) (h':H b=some u) (d:o≠u):a≠b:=by
 intro e;subst e;rw[h] at h';exact d (bN.inj h')
def aI {H:Hp} {a b:Addr} {o:HO} (h:H a=some o) (h':H b=none):a≠b:=by
 intro e;subst e;rw[h] at h';cases h'
section
variable (P:Program) (w:World)
def j6 (H:Hp) (h:Heap) (a:Addr):HO->Prop
 | .lst xs=>xs.length<=sizeLine/\∃(bq:List Value) (n:Nat),Vals xs bq/\h.get? a=some { cls:=.type "list",data:=.seq bq.toArray n }
 | .tup xs=>xs.length<=sizeLine/\∃bq:List Value,Vals xs bq/\IsTup h a bq.toArray
 | .dK fV=>fV.length<=sizeLine/\(a == sysModules)=false/\∃vs,KV fV vs/\h.DictOf (lq P w) a vs
 | .dT fV=>fV.length<=sizeLine/\(a == sysModules)=false/\∃xs:List (List Key × Addr × Value),
   Paired (λ(p:List Key × V) (q:List Key × Addr × Value)=>p.1=q.1/\H q.2.1=some (.tup (p.1.map kV))/\RelV p.2 q.2.2) fV xs/\
   ∃o es ep,h.get? a=some o/\o.ExactDict/\o.data=.dict es ep/\es.toList=xs.map (entryOfKey (tupleKind (lq P w)))/\(xs.map (·.1)).Nodup
 | .set S n=>h.SetOf (intKind P w) a S n
 | .ins C dx fs=>H dx=some (.own a)/\fs.length<=1000/\dx≠a/\h.get? a=some (jL C dx)/\
   ∃mA,h.Ns1 dx mA/\(∀f,rT (fs.lookup f) (mA f))/\PySem.Within mA (fs.map (·.1))
 | .own _=>∃o,h.get? a=some o
 | .xd fs=>∃mA,h.Ns1 a mA/\∀f,rT (fs.lookup f) (mA f)
 | .XN lo hi=>∃t u v,h.get? a=some { cls:=.type "range",data:=.fields #[.int lo t,.int hi u,.int 1 v] }
 | .u5 o u=>h.get? a=some o/\j6 H h a u
 | .ER ps=>h.get? a=some { cls:=.none,data:=.fields ps }
 | .met f x=>h.get? a=some (zg (.ref f) (.ref x))
 | .ext φ=>φ h/\(∃o,h.get? a=some o)/\∀h1 h2:Heap,φ h1->(∀o,h1.get? a=some o->h2.get? a=some o)->φ h2
def jq (H:Hp) (h:Heap):Prop:=∀a o,H a=some o->j6 P w H h a o
end
section
variable {P:Program} {w:World} {H H':Hp} {h h':Heap} {a:Addr} {o:HO}
theorem j6.lt (x:j6 P w H h a o):a < h.objs.size:=by
 cases o with
 | lst xs=>obtain⟨_,_,_,_,e⟩:=x;exact bH e
 | tup xs=>obtain⟨_,_,_,p⟩:=x;exact p.lt
 | dK fV=>obtain⟨_,_,_,_,o,_,_,e,_⟩:=x;exact bH e
 | dT fV=>obtain⟨_,_,_,_,o,_,_,e,_⟩:=x;exact bH e
 | set S n=>obtain⟨o,_,_,_,e,_⟩:=x;exact bH e
 | ins C dx fs=>obtain⟨_,_,_,e,_⟩:=x;exact bH e
 | own y=>obtain⟨_,e⟩:=x;exact bH e
 | xd fs=>obtain⟨_,⟨_,_,_,e,_⟩,_⟩:=x;exact bH e
 | XN lo hi=>obtain⟨_,_,_,e⟩:=x;exact bH e
 | u5 ob u=>obtain⟨e,_⟩:=x;exact bH e
 | ER ps=>exact bH (show h.get? a=some _ from x)
 | met f y=>exact bH (show h.get? a=some _ from x)
 | ext φ=>obtain⟨_,⟨_,e⟩,_⟩:=x;exact bH e
theorem Paired.aaW {α β : Type} {F G:α->β->Prop} :∀{l₁ : List α} {l₂ : List β},Paired F l₁ l₂->(∀a b,F a b->G a b)->Paired G l₁ l₂
 | _,_,.nil,_=>.nil
 | _,_,.cons r t,f=>.cons (f _ _ r) (Paired.aaW t f)
def j6.zV (x:j6 P w H h a o) (k :∀b u,(b=a\/H b=some (.own a))->h.get? b=some u->h'.get? b=some u)
  (ho :∀b,H b=some (.own a)->H' b=some (.own a)) (ht :∀b xs,H b=some (.tup xs)->H' b=some (.tup xs)):j6 P w H' h' a o:=by
 induction o with
 | lst xs=>obtain⟨z,bq,n,r,e⟩:=x;exact⟨z,bq,n,r,k _ _ (.inl rfl) e⟩
 | tup xs=>obtain⟨z,bq,r,ob,e,c⟩:=x;exact⟨z,bq,r,ob,k _ _ (.inl rfl) e,c⟩
 | dK fV=>obtain⟨z,y,vs,r,ob,es,ep,e,c⟩:=x;exact⟨z,y,vs,r,ob,es,ep,k _ _ (.inl rfl) e,c⟩
 | dT fV=>
  obtain⟨z,y,xs,r,ob,es,ep,e,c⟩:=x;exact⟨z,y,xs,Paired.aaW r λp q z=>⟨z.1,ht _ _ z.2.1,z.2.2⟩,ob,es,ep,k _ _ (.inl rfl) e,c⟩
 | set S n=>obtain⟨ob,es,ep,t,e,c⟩:=x;exact⟨ob,es,ep,t,k _ _ (.inl rfl) e,c⟩
 | ins C dx fs=>
  obtain⟨d,z,ne,e,mA,⟨od,es,ep,e2,c⟩,r⟩:=x;exact⟨ho _ d,z,ne,k _ _ (.inl rfl) e,mA,⟨od,es,ep,k _ _ (.inr d) e2,c⟩,r⟩
 | own y=>obtain⟨ob,e⟩:=x;exact⟨ob,k _ _ (.inl rfl) e⟩
 | xd fs=>obtain⟨mA,⟨od,es,ep,e,c⟩,r⟩:=x;exact⟨mA,⟨od,es,ep,k _ _ (.inl rfl) e,c⟩,r⟩
 | XN lo hi=>obtain⟨t,u,v,e⟩:=x;exact⟨t,u,v,k _ _ (.inl rfl) e⟩
 | u5 ob u ih=>obtain⟨e,q⟩:=x;exact⟨k _ _ (.inl rfl) e,ih q⟩
 | ER ps=>
  have e:h.get? a=some { cls:=.none,data:=.fields ps }:=x;show h'.get? a=some { cls:=.none,data:=.fields ps };exact k a _ (.inl rfl) e
 | met f y=>
  have e:h.get? a=some (zg (.ref f) (.ref y)):=x;show h'.get? a=some (zg (.ref f) (.ref y));exact k a _ (.inl rfl) e
 | ext φ=>obtain⟨p,⟨o,e⟩,st⟩:=x;exact⟨st _ _ p λo q=>k _ _ (.inl rfl) q,⟨o,k _ _ (.inl rfl) e⟩,st⟩
theorem jq.lt (x:jq P w H h) (e:H a=some o):a < h.objs.size:=(x a o e).lt
def jq.fresh (x:jq P w H h) (e:h.objs.size<=a):H a=none:=by
 cases q:H a with
 | none=>rfl
 | some u=>exact absurd (b6 (x.lt q) e) (iF _)
theorem jq.kept (x:jq P w H h) (k :∀b u,h.get? b=some u->h'.get? b=some u):jq P w H h':=λa o e=>
 (x a o e).zV (λb u _ q=>k b u q) (λ_ q=>q) λ_ _ q=>q
theorem jq.laid (x:jq P w H h) (k :∀b u,h.get? b=some u->h'.get? b=some u) (hp:h.objs.size<=a) (new:j6 P w (aX H a o) h' a o):jq P w (aX H a o) h':=λb u e=>by
 have hn:=x.fresh hp;by_cases hb:b=a
 ·subst hb;rw[ah] at e;cases e;exact new
 rw[au hb] at e;exact(x b u e).zV (λc v _ q=>k c v q) (λc q=>by rw[au (aI q hn)];exact q) λc xs q=>by rw[au (aI q hn)];exact q
end
def Rd (H:Hp) (a:Addr) (u:HO):Prop:=H a=some u\/∃o,H a=some (.u5 o u)
def Rd.ok {P:Program} {w:World} {H:Hp} {h:Heap} {a:Addr} {u:HO} (r:Rd H a u) (x:jq P w H h):j6 P w H h a u:=by
 rcases r with r | ⟨o,r⟩
 ·exact x a u r
 obtain⟨_,q⟩:=x a _ r;exact q
def XQ:Option HO->Prop
 | some (.lst _)=>True
 | some (.dK _)=>True
 | some (.dT _)=>True
 | some (.set _ _)=>True
 | some (.ins _ _ _)=>True
 | some (.ext _)=>True
 | _=>False
section
variable {P:Program} {w:World} {H:Hp} {h h':Heap} {x e:Addr} {o':HO}
def jq.write (ok:jq P w H h) (mu:XQ (H x)) (he:e=x\/H e=some (.own x)) (k :∀b u,b≠e->h.get? b=some u->h'.get? b=some u) (Px :∃u,h'.get? e=some u)
  (new:j6 P w (aX H x o') h' x o'):jq P w (aX H x o') h':=λb u q=>by
 have aaX :∀c y,H c=some (.own y)->c≠x:=λc y r z=>by subst z;rw[r] at mu;exact mu
 have agM :∀c xs,H c=some (.tup xs)->c≠x:=λc xs r z=>by subst z;rw[r] at mu;exact mu
 by_cases hb:b=x
 ·subst hb;rw[ah] at q;cases q;exact new
 rw[au hb] at q;by_cases oN:b=e
 ·have q':H b=some (.own x):=by
   rcases he with z | z
   ·exact absurd (oN.trans z) hb
   rw[oN];exact z
  rw[q] at q';cases q';obtain⟨v,hv⟩:=Px;exact⟨v,by rw[oN];exact hv⟩
 refine(ok b u q).zV (λc v hc r=>k c v ?_ r) (λc r=>by rw[au (aaX c b r)];exact r) λc xs r=>by rw[au (agM c xs r)];exact r
 rcases hc with rfl | hc
 ·exact oN
 rintro rfl;rcases he with z | z
 ·exact aaX c b hc z
 rw[hc] at z;cases z;exact hb rfl
end
structure Un (fs ex:List Addr) (H H':Hp) (h h':Heap):Prop where
 keep :∀b o,h.get? b=some o->H b=none->b∉fs->b∉ex->h'.get? b=some o
 slot :∀b o,h.get? b=some o->H b=none->b∈fs->b∉ex->∃sl,h'.get? b=some { o with slots:=sl }
 free :∀b o,h.get? b=some o->H b=none->b∉ex->H' b=none
 there :∀b o,h.get? b=some o->b∉ex->∃o',h'.get? b=some o'
 xn :∀b xs,H b=some (.tup xs)->H' b=some (.tup xs)
 vL :∀b o u,H b=some (.u5 o u)->H' b=some (.u5 o u)
 xo :∀b ps,H b=some (.ER ps)->∃more,H' b=some (.ER (ps++more))
section
variable {fs oP ex ex':List Addr} {H H1 H2:Hp} {h h1 h2 h':Heap} {a x e:Addr} {o:HO}
def Un.any (u:Un fs ex H H1 h h1) {b:Addr} {ob:Obj} (q:h.get? b=some ob) (n:H b=none) (hx:b∉ex) :∃sl,h1.get? b=some { ob with slots:=sl }:=by
 by_cases hb:b∈fs
 ·exact u.slot b ob q n hb hx
 exact⟨ob.slots,u.keep b ob q n hb hx⟩
theorem Un.kept (k :∀b u,h.get? b=some u->h'.get? b=some u):Un fs ex H H h h':=
 ⟨λb ob q _ _ _=>k b ob q,λb ob q _ _ _=>⟨ob.slots,k b ob q⟩,λ_ _ _ n _=>n,λb ob q _=>⟨ob,k b ob q⟩,λ_ _ q=>q,λ_ _ _ q=>q,λ_ ps q=>⟨#[],by rw[q];simp⟩⟩
theorem Un.refl:Un fs ex H H h h:=Un.kept λ_ _ q=>q
theorem Un.laid (k :∀b u,h.get? b=some u->h'.get? b=some u) (hp:h.objs.size<=a) (hn:H a=none):Un fs ex H (aX H a o) h h' where
 keep:=λb u q _ _ _=>k b u q
 slot:=λb u q _ _ _=>⟨u.slots,k b u q⟩
 free:=λb u q n _=>by rw[au (dR (b6 (bH q) hp))];exact n
 there:=λb u q _=>⟨u,k b u q⟩
 xn:=λb xs q=>by rw[au (aI q hn)];exact q
 vL:=λb u xs q=>by rw[au (aI q hn)];exact q
 xo:=λb ps q=>⟨#[],by rw[au (aI q hn),q];simp⟩
def Un.write (mu:XQ (H x)) (he:e=x\/H e=some (.own x)) (k :∀b u,b≠e->h.get? b=some u->h'.get? b=some u) (Px :∃u,h'.get? e=some u):Un fs ex H (aX H x o) h h':=by
 have hx :∀b,H b=none->b≠x:=λb n z=>by subst z;rw[n] at mu;exact mu
 have hb :∀b,H b=none->b≠e:=λb n z=>by
  subst z;rcases he with r | r
  ·exact hx b n r
  rw[n] at r;cases r
 have hm :∀b u,H b=some u->¬ XQ (some u)->b≠x:=λb u q nm z=>by subst z;rw[q] at mu;exact nm mu
 refine⟨λb u q n _ _=>k b u (hb b n) q,λb u q n _ _=>⟨u.slots,k b u (hb b n) q⟩,λb u q n _=>by rw[au (hx b n)];exact n,λb u q _=>?_,
  λb xs q=>by rw[au (hm b _ q λz=>z)];exact q,λb u xs q=>by rw[au (hm b _ q λz=>z)];exact q,λb ps q=>⟨#[],by rw[au (hm b _ q λz=>z),q];simp⟩⟩
 by_cases oN:b=e
 ·subst oN;exact Px
 exact⟨u,k b u oN q⟩
end
def XR (h:Heap) (H:Hp):List Addr:=(ba h.objs.size).filter λa=>(H a).isSome
def Dg (h:Heap) (H:Hp):Heap:=PySem.W.hideAll h (XR h H)
theorem Ta (h:Heap) (H:Hp):(Dg h H).objs.size=h.objs.size:=PySem.W.hideAll_size _ _
theorem VF (e:h.get? b=some o) (n:H b=none):(Dg h H).get? b=some o:=
 PySem.W.hideAll_get _ e λhm=>by
  have q:(H b).isSome=true:=(lG.mp hm).2;rw[n] at q;simp at q
def Za (e:(Dg h H).get? b=some o):h.get? b=some o/\H b=none:=by
 have e':h.get? b=some o:=PySem.W.of_hideAll (XR h H) e;refine⟨e',?_⟩;cases q:H b with
 | none=>rfl
 | some x=>
  have hm:b∈XR h H:=lG.mpr ⟨eW.mpr (bH e'),by simp[q]⟩;have z:(Dg h H).get? b=none:=PySem.W.hideAll_none (XR h H) hm;rw[z] at e;cases e
structure Mod (K:ak) (mg:Str->Option Value) (aS:Heap):Prop where
 KU:K.In aS
 glob:aS.Ns mainGlobals mg
 blt :∃mb,aS.Ns builtinsNs mb/\∀x:Str,x≠"__name__"->mb x=bootBuiltins x
 nolimit:aS.NoLimit
structure Cx where
 prog:Program
 w:World
 K:ak
 mg:Str->Option Value
 aS:Heap
 A:Around
 N:List Str
 mH:Shared
 Py:Hp
 env:Env
 outer:List Env
 stack:List Env
 ex:List Addr
 fn:Str->Bool
 calm:Bool
 pn:List (Addr × Obj)
 xe:Value->Shared->Prop
def rV (l:List Env):List Addr:=l.filterMap (·.frame)
abbrev Cx.fs (X:Cx):List Addr:=rV X.outer
def Pz (sc:Scope) (x:Str):Prop:=sc.names.lookup x=some .local\/sc.names.lookup x=some .cell\/sc.names.lookup x=some .free
def Loc (sc:Scope) (x:Str):Prop:=sc.names.lookup x=some .local\/sc.names.lookup x=some .cell
def Look (env:Env) (h:Heap) (m:Str->Option Value) (x:Str) (u:Value):Prop:=
 (env.kindOf x=some .local/\m x=some u)\/((env.kindOf x=some .cell\/env.kindOf x=some .free)/\∃c,env.cells.lookup x=some c/\h.IsCell c (some u))
structure Cx.Ok (X:Cx):Prop where
 mod:Mod X.K X.mg X.aS
 kind:X.env.scope.kind=.function
 glob:X.env.globals=mainGlobals
 blt:X.env.builtins=builtinsNs
 above:X.mH.heap.objs.size<=X.env.locals
 inj :∀x y c,X.env.cells.lookup x=some c->X.env.cells.lookup y=some c->x=y
 has :∀x,(X.env.kindOf x=some .cell\/X.env.kindOf x=some .free)->∃c,X.env.cells.lookup x=some c
 Tb :∀x c,X.fn x=true->X.env.cells.lookup x=some c->X.mH.heap.objs.size<=c
 hd:X.calm=true->X.A.handled=none
 frames:X.A.frames=some X.stack
 XS:X.stack=X.outer\/(X.stack=X.env::X.outer/\X.env.frame=some X.env.locals)
 XT :∀b∈X.ex,b≠X.env.locals/\∀x c,X.env.cells.lookup x=some c->c≠b
 bs :∀b o,X.aS.get? b=some o->X.mH.heap.get? b=some o/\X.Py b=none
 GQ:X.aS.objs.size<=X.mH.heap.objs.size
 ML :∀b o,X.aS.get? b=some o->b∉X.ex
 MM :∀b∈X.ex,b∉X.fs
 yA:X.mH.heap.FunFrames X.aS X.outer
 MN :∀b∈X.fs,X.Py b=none
structure Inv (X:Cx) (af:List (Addr × Obj)) (σ : List (Option V)) (H:Hp) (s:Shared):Prop where
 ok:X.Ok
 os:s.os=X.mH.os
 bare:AllBare s.gens
 aS:Un X.fs X.ex X.Py H X.mH.heap s.heap
 loc :∃m,s.heap.Ns X.env.locals m/\∀(i:Nat) (x:Str) (v:V),X.N[i]?=some x->σ[i]?=some (some v)->Pz X.env.scope x->∃u,RelV v u/\Look X.env s.heap m x u
 cell :∀x c,X.env.cells.lookup x=some c->∃v,s.heap.IsCell c v
 free:H X.env.locals=none
 oU :∀x c,X.env.cells.lookup x=some c->H c=none
 pin :∀p∈X.pn++af,s.heap.get? p.1=some p.2/\H p.1=none/\p.1≠X.env.locals/\p.1∉X.fs/\∀v,p.2.data≠.cell v
 cM:jq X.prog X.w H s.heap
 len:σ.length=X.N.length
section
variable {X:Cx} {af:List (Addr × Obj)} {σ : List (Option V)} {H H':Hp} {s:Shared} {h':Heap}
theorem Cx.Ok.agN (ok:X.Ok) (e:X.aS.get? b=some o):b∉X.fs:=λhb=>by
 have:=(ok.yA.mem hb).1;rw[e] at this;cases this
theorem Inv.bs (I:Inv X af σ H s) :∀b o,X.aS.get? b=some o->s.heap.get? b=some o/\H b=none:=λb o e=>
 ⟨I.aS.keep b o (I.ok.bs b o e).1 (I.ok.bs b o e).2 (I.ok.agN e) (I.ok.ML b o e),I.aS.free b o (I.ok.bs b o e).1 (I.ok.bs b o e).2 (I.ok.ML b o e)⟩
theorem Inv.bk (I:Inv X af σ H s) :∀b o,X.aS.get? b=some o->s.heap.get? b=some o:=λb o e=>(I.bs b o e).1
theorem Inv.mod (I:Inv X af σ H s):Mod X.K X.mg X.aS:=I.ok.mod
theorem Inv.j9 (I:Inv X af σ H s):X.K.In s.heap:=I.ok.mod.KU.keeps I.bk
theorem Inv.fr (I:Inv X af σ H s) :∃m,Fr X.aS X.env.locals s.heap m:=
 let⟨m,hn,_⟩:=I.loc
 ⟨m,hn,I.bk,c8 I.ok.GQ I.ok.above⟩
theorem Inv.lt (I:Inv X af σ H s):X.env.locals < s.heap.objs.size:=let⟨_,hn,_⟩:=I.loc;hn.lt
theorem Inv.sz (I:Inv X af σ H s):X.mH.heap.objs.size<=s.heap.objs.size:=c8 I.ok.above (wO I.lt)
theorem Inv.agO (I:Inv X af σ H s) (h:s.heap.objs.size<=a):a∉X.fs:=λhb=>by
 obtain⟨_,o,ho,_⟩:=I.ok.yA.mem hb;exact absurd (b6 (bH ho) (c8 I.sz h)) (iF _)
theorem Inv.KW (I:Inv X af σ H s) :∀x c,X.env.cells.lookup x=some c->c≠X.env.locals:=λx c e z=>by
 obtain⟨v,o,ho,hd⟩:=I.cell x c e;obtain⟨m,⟨o',es,ep,Bn,Pp,_⟩,_⟩:=I.loc;rw[z,Bn] at ho;cases ho;rw[Pp] at hd;cases hd
theorem Inv.yA (I:Inv X af σ H s):s.heap.FunFrames X.aS X.outer:=by
 have all :∀(l:List Env),(∀b∈rV l,b∈X.fs)->X.mH.heap.FunFrames X.aS l->s.heap.FunFrames X.aS l:=by
  intro l
  induction l with
  | nil=>intro _ _;trivial
  | cons env r ih=>
   intro hs hl;obtain⟨hk,⟨L,o,hf,hn,ho,hd⟩,hr⟩:=hl;have hL:L∈X.fs:=hs L (by unfold rV;rw[xk,hf];exact dH);obtain⟨sl,e⟩:=I.aS.slot L o ho (I.ok.MN L hL) hL λz=>I.ok.MM L z hL;exact⟨hk,⟨L,_,hf,hn,e,hd⟩,ih (λb hb=>hs b (by unfold rV;rw[xk,hf];exact b7 _ hb)) hr⟩
 exact all X.outer (λ_ hb=>hb) I.ok.yA
theorem Inv.stack (I:Inv X af σ H s):s.heap.FunFrames X.aS X.stack:=by
 rcases I.ok.XS with e | ⟨e,hf⟩
 ·rw[e];exact I.yA
 rw[e];obtain⟨m,hn,_⟩:=I.loc;refine .cons (by rw[I.ok.kind];decide) hf hn ?_ I.yA;exact Heap.get?_none_of_le (c8 I.ok.GQ I.ok.above)
theorem Inv.IL (I:Inv X af σ H s) :∀b∈rV X.stack,b∈X.env.locals::X.fs:=λb hb=>by
 rcases I.ok.XS with e | ⟨e,hf⟩
 ·rw[e] at hb;exact b7 _ hb
 rw[e] at hb;unfold rV at hb;rw[xk,hf] at hb;exact hb
theorem Inv.zH (I:Inv X af σ H s) :∀b∈rV X.stack,H b=none:=λb hb=>by
 rcases bS.mp (I.IL b hb) with e | hb
 ·rw[e];exact I.free
 obtain⟨_,o,ho,_⟩:=I.ok.yA.mem hb;exact I.aS.free b o ho (I.ok.MN b hb) λz=>I.ok.MM b z hb
def Inv.step {g':Array GenState} {t':Nat} {d':Drawn} {ch:List Addr} (I:Inv X af σ H s)
  (GR :∀b∈ch,(b∈X.ex\/X.mH.heap.objs.size<=b)/\b≠X.env.locals/\(∀x c,X.env.cells.lookup x=some c->c≠b)/\∀p∈X.pn++af,p.1≠b)
  (keep :∀b o,b≠X.env.locals->b∉X.fs->b∉ch->s.heap.get? b=some o->H b=none->h'.get? b=some o)
  (slot :∀b o,b≠X.env.locals->b∈X.fs->b∉ch->s.heap.get? b=some o->H b=none->∃sl,h'.get? b=some { o with slots:=sl }) (free :∀b o,b∉ch->s.heap.get? b=some o->H b=none->H' b=none)
  (there :∀b o,b∉ch->s.heap.get? b=some o->∃o',h'.get? b=some o')
  (xn :∀b xs,H b=some (.tup xs)->H' b=some (.tup xs)) (vL :∀b o u,H b=some (.u5 o u)->H' b=some (.u5 o u)) (xo :∀b ps,H b=some (.ER ps)->∃more,H' b=some (.ER (ps++more)))
  (ns :∀m,s.heap.Ns X.env.locals m->h'.Ns X.env.locals m) (cM:jq X.prog X.w H' h') (hg:AllBare g') :
  Inv X af σ H' { s with heap:=h',gens:=g',drawn:=d',toks:=t' }:=by
 have neL :∀b o,X.mH.heap.get? b=some o->b≠X.env.locals:=λb o e=>dR (b6 (bH e) I.ok.above);have XU :∀b o,X.mH.heap.get? b=some o->b∉X.ex->b∉ch:=λb o e hx hb=>by
  rcases(GR b hb).1 with z | z
  ·exact hx z
  exact absurd (b6 (bH e) z) (iF _)
 have cellK :∀x c,X.env.cells.lookup x=some c->∀v,s.heap.IsCell c v->h'.IsCell c v:=λx c e v ⟨o,ho,hd⟩=>by
  have Tc:c∉ch:=λz=>(GR c z).2.2.1 x c e rfl;by_cases hc:c∈X.fs
  ·obtain⟨sl,q⟩:=slot c o (I.KW x c e) hc Tc ho (I.oU x c e)
   exact⟨_,q,hd⟩
  exact⟨o,keep c o (I.KW x c e) hc Tc ho (I.oU x c e),hd⟩
 refine⟨I.ok,I.os,hg,⟨λb o e n hb hx=>?_,λb o e n hb hx=>?_,λb o e n hx=>?_,λb o e hx=>?_,λb xs e=>xn b xs (I.aS.xn b xs e),λb o xs e=>vL b o xs (I.aS.vL b o xs e),λb ps e=>?_⟩,?_,λx c e=>?_,?_,λx c e=>?_,λp hp=>?_,cM,I.len⟩
 ·exact keep b o (neL b o e) hb (XU b o e hx) (I.aS.keep b o e n hb hx) (I.aS.free b o e n hx)
 ·obtain⟨sl,e1⟩:=I.aS.slot b o e n hb hx
  obtain⟨sl',e2⟩:=slot b _ (neL b o e) hb (XU b o e hx) e1 (I.aS.free b o e n hx);exact⟨sl',e2⟩
 ·obtain⟨o',e1⟩:=I.aS.there b o e hx
  exact free b o' (XU b o e hx) e1 (I.aS.free b o e n hx)
 ·obtain⟨o',e1⟩:=I.aS.there b o e hx
  exact there b o' (XU b o e hx) e1
 ·obtain⟨m1,e1⟩:=I.aS.xo b ps e
  obtain⟨m2,e2⟩:=xo b _ e1;exact⟨m1++m2,by rw[e2,Array.append_assoc]⟩
 ·obtain⟨m,hn,hl⟩:=I.loc
  refine⟨m,ns m hn,λi x v e1 e2 e3=>?_⟩;obtain⟨u,r,l⟩:=hl i x v e1 e2 e3;refine⟨u,r,?_⟩;rcases l with l | ⟨k,c,e,z⟩
  ·exact .inl l
  exact .inr ⟨k,c,e,cellK x c e _ z⟩
 ·obtain⟨v,z⟩:=I.cell x c e
  exact⟨v,cellK x c e v z⟩
 ·obtain⟨m,⟨o,_,_,ho,_⟩,_⟩:=I.loc
  exact free _ o (λz=>(GR _ z).2.1 rfl) ho I.free
 ·obtain⟨v,o,ho,hd⟩:=I.cell x c e
  exact free c o (λz=>(GR c z).2.2.1 x c e rfl) ho (I.oU x c e)
 obtain⟨e,n,ne,nf,d⟩:=I.pin p hp;have Tc:p.1∉ch:=λz=>(GR p.1 z).2.2.2 p hp rfl;exact⟨keep p.1 p.2 ne nf Tc e n,free p.1 p.2 Tc e n,ne,nf,d⟩
def Inv.un {t':Nat} (I:Inv X af σ H s) (u:Un X.fs [] H H' s.heap h') (cM:jq X.prog X.w H' h'):Inv X af σ H' { s with heap:=h',toks:=t' }:=by
 obtain⟨m,⟨o,es,ep,ho,r⟩,_⟩:=id I.loc;obtain⟨sl,hL⟩:=u.any ho I.free (by simp);exact I.step (g':=s.gens) (d':=s.drawn) (ch:=[]) (λ_ z=>nomatch z) (λb o _ hb _ e n=>u.keep b o e n hb (by simp)) (λb o _ hb _ e n=>u.slot b o e n hb (by simp)) (λb o _ e n=>u.free b o e n (by simp)) (λb o _ e=>u.there b o e (by simp)) u.xn u.vL u.xo (λm' hm=>by
  obtain⟨o',es',ep',Bn,r'⟩:=hm;rw[ho] at Bn;cases Bn;exact⟨_,es',ep',hL,r'⟩) cM I.bare
def Inv.call {g':Array GenState} {t':Nat} {d':Drawn} {ch:List Addr} (I:Inv X af σ H s) (u:Un (rV X.stack) ch H H' s.heap h') (cM:jq X.prog X.w H' h') (hg:AllBare g')
  (GR :∀b∈ch,(b∈X.ex\/X.mH.heap.objs.size<=b)/\b≠X.env.locals/\(∀x c,X.env.cells.lookup x=some c->c≠b)/\∀p∈X.pn++af,p.1≠b) :
  Inv X af σ H' { s with heap:=h',gens:=g',drawn:=d',toks:=t' }:=by
 obtain⟨m,⟨o,es,ep,ho,r⟩,_⟩:=id I.loc;obtain⟨sl,hL⟩:=u.any ho I.free λz=>(GR _ z).2.1 rfl;exact I.step (ch:=ch) GR (λb o hL hb hc e n=>u.keep b o e n (λz=>(bS.mp (I.IL b z)).elim hL hb) hc) (λb o _ _ hc e n=>u.any e n hc) (λb o hc e n=>u.free b o e n hc) (λb o hc e=>u.there b o e hc) u.xn u.vL u.xo (λm' hm=>by
  obtain⟨o',es',ep',Bn,r'⟩:=hm;rw[ho] at Bn;cases Bn;exact⟨_,es',ep',hL,r'⟩) cM hg
def Inv.turned {t':Nat} {it:Addr} (I:Inv X af σ H s) (k :∀b o,b≠it->s.heap.get? b=some o->h'.get? b=some o) (hn:H it=none) (hL:it≠X.env.locals)
  (h1:it∈X.ex\/X.mH.heap.objs.size<=it) (h2 :∀x c,X.env.cells.lookup x=some c->c≠it) (h3 :∀p∈X.pn++af,p.1≠it):Inv X af σ H { s with heap:=h',toks:=t' }:=by
 have nit :∀b u,H b=some u->b≠it:=λb u e z=>by rw[z,hn] at e;cases e
 refine I.step (g':=s.gens) (d':=s.drawn) (ch:=[it]) (λb hb=>?_) (λb o _ _ hc e _=>k b o (λz=>hc (by simp[z])) e) (λb o _ _ hc e _=>⟨o.slots,k b o (λz=>hc (by simp[z])) e⟩) (λ_ _ _ _ n=>n)
  (λb o hc e=>⟨o,k b o (λz=>hc (by simp[z])) e⟩) (λ_ _ e=>e) (λ_ _ _ e=>e) (λb ps e=>⟨#[],by rw[e];simp⟩) (λm hm=>?_) (λb u e=>?_) I.bare
 ·have e:b=it:=by simpa using hb
  subst e;exact⟨h1,hL,h2,h3⟩
 ·obtain⟨o,es,ep,ho,r⟩:=hm
  exact⟨o,es,ep,k _ o (Ne.symm hL) ho,r⟩
 refine(I.cM b u e).zV (λc v hc q=>k c v ?_ q) (λ_ q=>q) λ_ _ q=>q;rcases hc with z | z
 ·rw[z];exact nit b u e
 exact nit c _ z
theorem Inv.tok (I:Inv X af σ H s) (t:Nat):Inv X af σ H { s with toks:=t }:=I.un (h':=s.heap) (t':=t) Un.refl I.cM
theorem Inv.kept {t':Nat} (I:Inv X af σ H s) (k :∀b u,s.heap.get? b=some u->h'.get? b=some u):Inv X af σ H { s with heap:=h',toks:=t' }:=I.un (Un.kept k) (I.cM.kept k)
theorem Inv.laid {a:Addr} {o:HO} {t':Nat} (I:Inv X af σ H s) (k :∀b u,s.heap.get? b=some u->h'.get? b=some u) (hp:s.heap.objs.size<=a) (new:j6 X.prog X.w (aX H a o) h' a o) :
  Inv X af σ (aX H a o) { s with heap:=h',toks:=t' }:=I.un (Un.laid k hp (I.cM.fresh hp)) (I.cM.laid k hp new)
theorem Inv.write (I:Inv X af σ H s) (mu:XQ (H x)) (he:e=x\/H e=some (.own x)) (k :∀b u,b≠e->s.heap.get? b=some u->h'.get? b=some u) (Px :∃u,h'.get? e=some u)
  (new:j6 X.prog X.w (aX H x o) h' x o):Inv X af σ (aX H x o) { s with heap:=h',toks:=t' }:=I.un (Un.write mu he k Px) (I.cM.write mu he k Px new)
theorem Inv.weak {σ':List (Option V)} (I:Inv X af σ H s) (hl:σ'.length = σ.length) (w :∀(i:Nat) v,σ'[i]?=some (some v)->σ[i]?=some (some v)):Inv X af σ' H s:=
 ⟨I.ok,I.os,I.bare,I.aS,let⟨m,hn,PB⟩:=I.loc;⟨m,hn,λi x v e1 e2 e3=>PB i x v e1 (w i v e2) e3⟩,I.cell,I.free,I.oU,I.pin,I.cM,hl.trans I.len⟩
theorem Inv.PD (I:Inv X af σ H s) (h :∀p∈aev,s.heap.get? p.1=some p.2/\H p.1=none/\p.1≠X.env.locals/\p.1∉X.fs/\∀v,p.2.data≠.cell v):Inv X aev σ H s:=
 ⟨I.ok,I.os,I.bare,I.aS,I.loc,I.cell,I.free,I.oU,λp hp=>(eY.mp hp).elim (λz=>I.pin p (List.mem_append_left _ z)) (h p),I.cM,I.len⟩
def HG {N:List Str} (hN:N.Nodup) {i j:Nat} {x:Str} (a:N[i]?=some x) (b:N[j]?=some x):i=j:=by
 obtain⟨h1,e1⟩:=az.mp a;obtain⟨h2,e2⟩:=az.mp b;exact(mQ hN).mp (e1.trans e2.symm)
def KY {M:Model} {A:Around} {E:Value->Shared->Prop} {i:Nat} {x:Str} {v:V} {u:Value} {Q:Unit->Shared->Prop} (I:Inv X af σ H s) (hN:X.N.Nodup) (hi:X.N[i]?=some x) (hx:Loc X.env.scope x) (r:RelV v u)
  (h :∀s',Inv X af (σ.set i (some v)) H s'->(∃a,A9 a s.heap s'.heap/\(a=X.env.locals\/X.env.cells.lookup x=some a))->Q () s') (hf:X.fn x=true\/X.env.scope.names.lookup x=some .local:=by first | exact .inl rfl | exact .inr rfl | assumption):wpAny M A (storeName X.env x u) Q E s:=by
 obtain⟨m,hn,hl⟩:=id I.loc;have VG:(X.env.scope.kind == .class || (X.env.scope.kind == .module&&X.env.locals != X.env.globals))=false:=by rw[I.ok.kind];rfl
 have hiσ : i < σ.length:=by rw[I.len];exact(az.mp hi).1
 have KW:=I.KW;have tracked :∀{a:Addr} {h':Heap},(∃o,s.heap.get? a=some o/\H a=none)->A9 a s.heap h'->jq X.prog X.w H h':=λ{a h'} ha hs b ob e=>by
  obtain⟨_,_,zo⟩:=ha;refine(I.cM b ob e).zV (λc w' hc q=>(hs.2 c ?_).trans q) (λ_ q=>q) λ_ _ q=>q;rintro rfl;rcases hc with rfl | hc
  ·rw[zo] at e;cases e
  rw[zo] at hc;cases hc
 rcases hx with hk | hk
 ·refine wpAny_storeName_local hk hn (λh' D6 hs=>?_) VG
  obtain⟨oL,_,_,hoL,_⟩:=id hn;refine h _ ⟨I.ok,I.os,I.bare,⟨λb o e n hb hx=>?_,λb o e n hb hx=>?_,I.aS.free,λb o e hx=>?_,I.aS.xn,I.aS.vL,I.aS.xo⟩,⟨_,D6,λj y v' e1 e2 e3=>?_⟩,λy c e=>?_,I.free,I.oU,λp hp=>?_,tracked ⟨oL,hoL,I.free⟩ hs,by simpa using I.len⟩ ⟨_,hs,.inl rfl⟩
  ·exact(hs.2 b (dR (b6 (bH e) I.ok.above))).trans (I.aS.keep b o e n hb hx)
  ·obtain⟨sl,e1⟩:=I.aS.slot b o e n hb hx
   exact⟨sl,(hs.2 b (dR (b6 (bH e) I.ok.above))).trans e1⟩
  ·obtain⟨o',e1⟩:=I.aS.there b o e hx
   exact⟨o',(hs.2 b (dR (b6 (bH e) I.ok.above))).trans e1⟩
  ·by_cases hj:j=i
   ·subst hj
    rw[hi] at e1;cases e1;rw[uo hiσ] at e2;cases e2;exact⟨u,r,.inl ⟨hk,by simp⟩⟩
   rw[wU (Ne.symm hj)] at e2;obtain⟨u',r',q⟩:=hl j y v' e1 e2 e3;refine⟨u',r',?_⟩;rcases q with⟨k,e⟩ | ⟨k,c,e,z⟩
   ·refine .inl ⟨k,?_⟩
    have:y≠x:=λe=>hj (HG hN e1 (e ▸ hi));simp[this,e]
   exact .inr ⟨k,c,e,z.sameBut hs (KW y c e)⟩
  ·obtain⟨w',z⟩:=I.cell y c e
   exact⟨w',z.sameBut hs (KW y c e)⟩
  obtain⟨e,n,ne,nf,d⟩:=I.pin p hp;exact⟨(hs.2 p.1 ne).trans e,n,ne,nf,d⟩
 have hfn:X.fn x=true:=by
  rcases hf with z | z
  ·exact z
  rw[z] at hk;cases hk
 obtain⟨c,hc⟩:=I.ok.has x (.inl hk);obtain⟨w',z⟩:=I.cell x c hc;refine wpAny_storeName_cell I.ok.kind hk hc z (λh' Cw hs=>?_);obtain⟨oc,hoc,agP⟩:=id z;refine h { s with heap:=h' } ⟨I.ok,I.os,I.bare,⟨λb o e n hb hx=>?_,λb o e n hb hx=>?_,I.aS.free,λb o e hx=>?_,I.aS.xn,I.aS.vL,I.aS.xo⟩,⟨m,hn.sameBut hs (Ne.symm (KW x c hc)),λj y v' e1 e2 e3=>?_⟩,λy c' e=>?_,I.free,I.oU,λp hp=>?_,tracked ⟨oc,hoc,I.oU x c hc⟩ hs,by simpa using I.len⟩ ⟨c,hs,.inr hc⟩
 ·exact(hs.2 b (dR (b6 (bH e) (I.ok.Tb x c hfn hc)))).trans (I.aS.keep b o e n hb hx)
 ·obtain⟨sl,e1⟩:=I.aS.slot b o e n hb hx
  exact⟨sl,(hs.2 b (dR (b6 (bH e) (I.ok.Tb x c hfn hc)))).trans e1⟩
 ·obtain⟨o',e1⟩:=I.aS.there b o e hx
  exact⟨o',(hs.2 b (dR (b6 (bH e) (I.ok.Tb x c hfn hc)))).trans e1⟩
 ·by_cases hj:j=i
  ·subst hj
   rw[hi] at e1;cases e1;rw[uo hiσ] at e2;cases e2;exact⟨u,r,.inr ⟨.inl hk,c,hc,Cw⟩⟩
  rw[wU (Ne.symm hj)] at e2;obtain⟨u',r',q⟩:=hl j y v' e1 e2 e3;refine⟨u',r',?_⟩;rcases q with q | ⟨k,c',e,z'⟩
  ·exact .inl q
  refine .inr ⟨k,c',e,z'.sameBut hs ?_⟩;rintro rfl;exact hj (HG hN e1 (I.ok.inj _ _ _ e hc ▸ hi))
 ·by_cases ES:c'=c
  ·subst ES;exact⟨_,Cw⟩
  obtain⟨w2,z2⟩:=I.cell y c' e;exact⟨w2,z2.sameBut hs ES⟩
 obtain⟨e,n,ne,nf,d⟩:=I.pin p hp;refine⟨(hs.2 p.1 ?_).trans e,n,ne,nf,d⟩;intro q;rw[q,hoc] at e;have q':oc=p.2:=bN.inj e;exact d w' (by rw[<- q'];exact agP)
def Dh (I:Inv X af σ H s) (hN:X.N.Nodup) (hi:X.N[i]?=some x) (hx:Loc X.env.scope x) (r:RelV v u)
  (h :∀s',Inv X af (σ.set i (some v)) H s'->Q () s') (hf:X.fn x=true\/X.env.scope.names.lookup x=some .local:=by first | exact .inl rfl | exact .inr rfl | assumption):wpAny M A (storeName X.env x u) Q E s:=
 KY I hN hi hx r (λs' I' _=>h s' I') hf
def Inv.Di {s':Shared} {ch:List Addr} (I:Inv X af σ H s) (ho:s'.os=s.os) (u:Un (rV X.stack) ch H H' s.heap s'.heap) (cM:jq X.prog X.w H' s'.heap) (hg:AllBare s'.gens)
  (GR :∀b∈ch,(b∈X.ex\/X.mH.heap.objs.size<=b)/\b≠X.env.locals/\(∀x c,X.env.cells.lookup x=some c->c≠b)/\∀p∈X.pn++af,p.1≠b):Inv X af σ H' s':=by
 obtain⟨h',g',d',t',o'⟩:=s';have e:o'=s.os:=ho;subst e;exact I.call (g':=g') (t':=t') (d':=d') u cM hg GR
end
abbrev XK:=Value->Option Addr->Hp->Prop
abbrev St:=List (Option V)
abbrev VK:=V->Hp->Prop
abbrev TE:=St->Hp->VK->Prop
abbrev TT:=St->Hp->(Bool->Hp->Prop)->Prop
abbrev TA:=St->Hp->(List V->Hp->Prop)->Prop
structure Ends where
 nx:St->Hp->Prop
 rt:VK
 bk:St->Hp->Prop:=λ_ _=>False
 ct:St->Hp->Prop:=λ_ _=>False
abbrev TS:=Ends->St->Hp->Prop
inductive EP (X:Cx) (af:List (Addr × Obj)) (σ : St) (Q:VK) (u:Value) (s':Shared):Prop where
 | mk v H' (_:Inv X af σ H' s') (_:RelV v u) (_:Q v H')
def TP (X:Cx) (af:List (Addr × Obj)) (σ : St) (Q:Bool->Hp->Prop) (b:Bool) (s':Shared):Prop:=∃H',Inv X af σ H' s'/\Q b H'
inductive AP (X:Cx) (af:List (Addr × Obj)) (σ : St) (Q:List V->Hp->Prop) (us:List Value) (s':Shared):Prop where
 | mk vs H' (_:Inv X af σ H' s') (_:Vals vs us) (_:Q vs H')
def SP (X:Cx) (af:List (Addr × Obj)) (D:Ends) (f:Flow) (s':Shared):Prop:=
 match f with
 | .next=>∃σ' H',Inv X af σ' H' s'/\D.nx σ' H'
 | .brk=>∃σ' H',Inv X af σ' H' s'/\D.bk σ' H'
 | .cont=>∃σ' H',Inv X af σ' H' s'/\D.ct σ' H'
 | .ret u=>∃v σ' H',Inv X af σ' H' s'/\RelV v u/\D.rt v H'
def PE (X:Cx) (e:Expr) (t:TE):Prop:=
 ∀(af:List (Addr × Obj)) (s:Shared) (σ : St) (H:Hp) (Q:VK),Inv X af σ H s->t σ H Q->wpAny (model X.prog X.w) X.A (eval e X.env) (EP X af σ Q) X.xe s
def PT (X:Cx) (e:Expr) (t:TT):Prop:=
 ∀(af:List (Addr × Obj)) (s:Shared) (σ : St) (H:Hp) (Q:Bool->Hp->Prop),Inv X af σ H s->t σ H Q->wpAny (model X.prog X.w) X.A (isTrue e X.env (eval e X.env)) (TP X af σ Q) X.xe s
def PW (X:Cx) (e:Expr) (t:TT):Prop:=
 ∀(whole:Sem Value) (af:List (Addr × Obj)) (s:Shared) (σ : St) (H:Hp) (Q:Bool->Hp->Prop),Inv X af σ H s->t σ H Q->wpAny (model X.prog X.w) X.A (isTrue e X.env whole) (TP X af σ Q) X.xe s
theorem PW.pt {X:Cx} {e:Expr} {t:TT} (h:PW X e t):PT X e t:=h _
def PA (X:Cx) (es:List Expr) (t:TA):Prop:=
 ∀(pos:Pos) (af:List (Addr × Obj)) (s:Shared) (σ : St) (H:Hp) (Q:List V->Hp->Prop),Inv X af σ H s->t σ H Q->wpAny (model X.prog X.w) X.A (spliced (backTo pos (starEach es X.env))) (AP X af σ Q) X.xe s
def PS (X:Cx) (st:Stmt) (t:TS):Prop:=
 ∀(af:List (Addr × Obj)) (s:Shared) (σ : St) (H:Hp) (D:Ends),Inv X af σ H s->t D σ H->wpAny (model X.prog X.w) X.A (exec st X.env) (SP X af D) X.xe s
def vM (X:Cx) (st:List Stmt) (t:TS):Prop:=
 ∀(af:List (Addr × Obj)) (s:Shared) (σ : St) (H:Hp) (D:Ends),Inv X af σ H s->t D σ H->wpAny (model X.prog X.w) X.A (execs st X.env) (SP X af D) X.xe s
theorem cX {α : Type} {t:Sem α} {Q Q':α->Shared->Prop} {M:Model} {A:Around} {E:Value->Shared->Prop} {s:Shared} (h:wpAny M A t Q E s) (hQ :∀a s,Q a s->Q' a s):wpAny M A t Q' E s:=wpAny_mono h hQ λ_ _ x=>x
section
variable {X:Cx}
def bin {a b:Expr} {ta tb:TE} (ha:PE X a ta) (hb:PE X b tb) {af:List (Addr × Obj)} {s:Shared} {σ : St} {H:Hp} {R:V->V->Hp->Prop} (I:Inv X af σ H s) (h:ta σ H λx H1=>tb σ H1 λy H2=>R x y H2)
  {α : Type} {Q:α->Shared->Prop} {f:Value->Value->Sem α}
  (hf :∀v u s2 x y H2,Inv X af σ H2 s2->RelV x v->RelV y u->R x y H2->wpAny (model X.prog X.w) X.A (f v u) Q X.xe s2) :
  wpAny (model X.prog X.w) X.A (eval a X.env) (λv s₁=>wpAny (model X.prog X.w) X.A (eval b X.env) (λu s₂=>wpAny (model X.prog X.w) X.A (f v u) Q X.xe s₂) X.xe s₁) X.xe s:=by
 refine cX (ha af s σ H _ I h) λv s1 ⟨x,H1,I1,r1,q1⟩=>?_;refine cX (hb af s1 σ H1 _ I1 q1) λu s2 ⟨y,H2,I2,r2,q2⟩=>?_;exact hf v u s2 x y H2 I2 r1 r2 q2
inductive bR (i:Nat) (σ : St) (H:Hp) (Q:VK):Prop where
 | mk v (_:σ[i]?=some (some v)) (_:Q v H)
def tC (v:V):TE:=λ_ H Q=>Q v H
def aa1 (hN:X.N[i]?=some x) (hv:Pz X.env.scope x) (hd:(x == ("__debug__" : Str))=false:=by decide) (rF:(x == ("__classdict__" : Str))=false:=by decide):PE X (.Name x pos) (bR i):=by
 intro af s σ H Q I h;obtain⟨v,e,h⟩:=h;obtain⟨m,hn,hl⟩:=I.loc;obtain⟨u,r,l⟩:=hl i x v hN e hv;have di:EP X af σ Q u s:=⟨v,H,I,r,h⟩
 rcases l with⟨hk,hm⟩ | ⟨hk,c,hc,Dj⟩
 ·exact wpAny_Name (wpAny_loadName_local I.ok.kind hk hn hm di) hd
 rcases hk with hk | hk
 ·exact wpAny_Name (wpAny_loadName_cell I.ok.kind hk hc Dj di) hd
 exact wpAny_Name (wpAny_loadName_free I.ok.kind hk hc Dj di rF) hd
theorem aa2 {i j pos}:PE X (.Constant (.int i) j pos) (tC (.int i)):=λ_ _ _ H _ I h=>wpAny_Constant_int ⟨.int i,H,I.tok _,⟨_,Z⟩,h⟩
theorem aew {b j pos}:PE X (.Constant (.bool b) j pos) (tC (.bl b)):=λ_ _ _ H _ I h=>Constant_bool ⟨.bl b,H,I,Z,h⟩
theorem aa3 {j pos}:PE X (.Constant .none j pos) (tC .cj):=λ_ _ _ H _ I h=>Constant_none ⟨.cj,H,I,Z,h⟩
theorem aa4 {x j pos}:PE X (.Constant (.str x) j pos) (tC (.str x)):=λ_ _ _ H _ I h=>Calls.Constant_str ⟨.str x,H,I.tok _,⟨_,Z⟩,h⟩
def Gl (X:Cx) (x:Str):Prop:=X.env.kindOf x=some .globalImplicit
def mZ (I:Inv X af σ H s) (hg:Gl X x) (hm:X.mg x=some u) (h:Q u s)
  (hd:(x == ("__debug__" : Str))=false:=by decide):wpAny (model X.prog X.w) X.A (eval (.Name x pos) X.env) Q E s:=
 Calls.Name_function_global I.ok.kind hg (Calls.loadGlobal_global (by rw[I.ok.glob];exact I.mod.glob.keeps I.bk) hm h) hd
def IM (I:Inv X af σ H s) (hg:Gl X x) (hm:X.mg x=none) (hv:bootBuiltins x=some u) (h:Q u s)
  (hn:x≠"__name__":=by decide) (hd:(x == ("__debug__" : Str))=false:=by decide):wpAny (model X.prog X.w) X.A (eval (.Name x pos) X.env) Q E s:=by
 obtain⟨mb,h1,h2⟩:=I.mod.blt;exact Calls.Name_function_global I.ok.kind hg (Calls.loadGlobal_builtin (by rw[I.ok.glob];exact I.mod.glob.keeps I.bk) hm (by rw[I.ok.blt];exact h1.keeps I.bk) ((h2 x hn).trans hv) h) hd
def Ka (hg:Gl X x) (hm:X.mg x=some u) (r:RelV v u) (hd:(x == ("__debug__" : Str))=false:=by decide):PE X (.Name x pos) (tC v):=
 λ_ _ _ H _ I h=>mZ I hg hm ⟨v,H,I,r,h⟩ hd
variable {a b:Expr} {ta tb:TE} {pos:Pos}
def PC (X:Cx) (op:CmpOp) (a b:Expr) (t:TE):Prop:=
 ∀(af:List (Addr × Obj)) (s:Shared) (σ : St) (H:Hp) (Q:VK),Inv X af σ H s->t σ H Q->
  wpAny (model X.prog X.w) X.A (eval a X.env) (λv s₁=>wpAny (model X.prog X.w) X.A (eval b X.env) (λu s₂=>wpAny (model X.prog X.w) X.A (compareOp op v u) (EP X af σ Q) X.xe s₂) X.xe s₁) X.xe s
def MO (b:Expr) (h:op≠.In) (h2:op≠.NotIn):behindInMarks op b=false:=by
 have e1:(op == CmpOp.In)=false:=by cases op <;> first | rfl | exact absurd rfl h
 have e2:(op == CmpOp.NotIn)=false:=by cases op <;> first | rfl | exact absurd rfl h2
 cases b <;> simp[behindInMarks,e1,e2]
def VH (ta:TE):TE:=λσ H Q=>ta σ H λx H1=>Q (.bl (decide (x=.cj))) H1
def Rz (ta:TE):TE:=λσ H Q=>ta σ H λx H1=>Q (.bl (!decide (x=.cj))) H1
def RelV.uJ {x:V} {v:Value} (r:RelV x v):(v == Value.none)=decide (x=.cj):=by
 cases x with
 | cj=>cases r;rfl
 | bl _=>cases r;rfl
 | int _=>obtain⟨t,rfl⟩:=r;rfl
 | str _=>obtain⟨t,rfl⟩:=r;rfl
 | vK _=>obtain⟨t,rfl⟩:=r;rfl
 | S9 _=>obtain⟨t,rfl⟩:=r;rfl
 | ref _=>cases r;rfl
 | ty _=>cases r;rfl
def Td {j jz} (ha:PE X a ta):PC X .Is a (.Constant .none j jz) (VH ta):=by
 intro af s σ H Q I h;refine cX (ha af s σ H _ I h) λv s1 ⟨x,H1,I1,r1,q1⟩=>?_;exact Constant_none (is_none_gen ⟨.bl _,H1,I1,by rw[r1.uJ];rfl,q1⟩)
def Zb {j jz} (ha:PE X a ta):PC X .IsNot a (.Constant .none j jz) (Rz ta):=by
 intro af s σ H Q I h;refine cX (ha af s σ H _ I h) λv s1 ⟨x,H1,I1,r1,q1⟩=>?_;exact Constant_none (isnot_none_gen ⟨.bl _,H1,I1,by rw[r1.uJ];rfl,q1⟩)
inductive aa5 (Q:Bool->Hp->Prop) (x:V) (H1:Hp):Prop where
 | mk c (_:x=.bl c) (_:Q c H1)
def tB (t:TE):TT:=λσ H Q=>t σ H λx H1=>aa5 Q x H1
def aa6 (h:PC X op a b t) (h1:behindInMarks op b=false:=by first | exact MO _ (by decide) (by decide) | rfl):PE X (.Compare a [op] [b] pos) t:=λaf s σ H Q I hw=>wpAny_Compare1 (h af s σ H Q I hw) h1
def MP {op:CmpOp} {t:TE} (h:PC X op a b t) (h1:behindInMarks op b=false:=by first | exact MO _ (by decide) (by decide) | rfl):PT X (.Compare a [op] [b] pos) (tB t):=by
 intro af s σ H Q I hw;refine wpAny_isTrue_Compare1 (cX (h af s σ H _ I hw) λv s1 h1=>cX h1 λu s2 h2=>cX h2 λc s3 ⟨x,H1,I1,r1,q1⟩=>?_) h1;obtain⟨d,rfl,q⟩:=q1;cases r1;exact wpAny_truthy_bool ⟨H1,I1,q⟩
def aa7 {e:Expr} {t:TE} (h:PE X e t) (he :∀whole,isTrue e X.env whole=(do let v <- whole;standAt e.pos;holding [v] (truthy v)):=by intro _;rfl):PT X e (tB t):=by
 intro af s σ H Q I hw;refine isTrue_plain (cX (h af s σ H _ I hw) λv s1 ⟨x,H1,I1,r1,q1⟩=>?_) (he _);obtain⟨d,rfl,q⟩:=q1;cases r1;exact wpAny_truthy_bool ⟨H1,I1,q⟩
variable {tA IP:TT} {je:List Expr}
def RA (t u:TT):TT:=λσ H Q=>t σ H λc H1=>if c=true then u σ H1 Q else Q false H1
def XW (t u:TT):TT:=λσ H Q=>t σ H λc H1=>if c=true then Q true H1 else u σ H1 Q
def RB (t:TT):TT:=λσ H Q=>t σ H λc H1=>Q (!c) H1
def Zc (ha:PT X a tA):PW X (.BoolOp .And [a] pos) tA:=by
 intro wh af s σ H Q I h;refine isTrue_and (cX (ha af s σ H Q I h) λc s1 e=>?_);cases c with
 | true=>exact isTrue_and_nil e
 | false=>exact e
def aa8 (ha:PT X a tA):PW X (.BoolOp .Or [a] pos) tA:=by
 intro wh af s σ H Q I h;refine isTrue_or (cX (ha af s σ H Q I h) λc s1 e=>?_);cases c with
 | false=>exact isTrue_or_nil e
 | true=>exact e
def aa9 (ha:PT X a tA) (hb:PW X (.BoolOp .And (b::je) pos) IP):PW X (.BoolOp .And (a::b::je) pos) (RA tA IP):=by
 intro wh af s σ H Q I h;refine isTrue_and (cX (ha af s σ H _ I h) λc s1 ⟨H1,I1,q1⟩=>?_);cases c with
 | true=>exact hb wh af s1 σ H1 Q I1 q1
 | false=>exact⟨H1,I1,q1⟩
def aex (ha:PT X a tA) (hb:PW X (.BoolOp .Or (b::je) pos) IP):PW X (.BoolOp .Or (a::b::je) pos) (XW tA IP):=by
 intro wh af s σ H Q I h;refine isTrue_or (cX (ha af s σ H _ I h) λc s1 ⟨H1,I1,q1⟩=>?_);cases c with
 | true=>exact⟨H1,I1,q1⟩
 | false=>exact hb wh af s1 σ H1 Q I1 q1
def aba (ha:PT X a tA):PT X (.UnaryOp .Not a pos) (RB tA):=by
 intro af s σ H Q I h;exact isTrue_not (ha af s σ H (λc H1=>Q (!c) H1) I h)
inductive Zd (tb:TE) (σ : St) (Q:VK) (x:V) (H1:Hp):Prop where
 | mk c (_:x=.bl c) (_:if c=true then tb σ H1 Q else Q (.bl false) H1)
def RC (ta tb:TE):TE:=λσ H Q=>ta σ H λx H1=>Zd tb σ Q x H1
inductive abb (tb:TE) (σ : St) (Q:VK) (x:V) (H1:Hp):Prop where
 | mk c (_:x=.bl c) (_:if c=true then Q (.bl true) H1 else tb σ H1 Q)
def VI (ta tb:TE):TE:=λσ H Q=>ta σ H λx H1=>abb tb σ Q x H1
inductive Ze (Q:VK) (x:V) (H1:Hp):Prop where
 | mk c (_:x=.bl c) (_:Q (.bl (!c)) H1)
def XY (ta:TE):TE:=λσ H Q=>ta σ H λx H1=>Ze Q x H1
theorem abc {op} (h:PE X a t):PE X (.BoolOp op [a] pos) t:=λaf s σ H Q I hw=>BoolOp_one (h af s σ H Q I hw)
def abd (ha:PE X a ta) (hb:PE X (.BoolOp .And (b::je) pos) tb):PE X (.BoolOp .And (a::b::je) pos) (RC ta tb):=by
 intro af s σ H Q I h;refine BoolOp_and (cX (ha af s σ H _ I h) λv s1 ⟨x,H1,I1,r1,q1⟩=>?_);obtain⟨c,rfl,q1⟩:=q1;cases r1;refine wpAny_truthy_bool ?_;cases c with
 | true=>exact hb af s1 σ H1 Q I1 q1
 | false=>exact⟨.bl false,H1,I1,Z,q1⟩
def aey (ha:PE X a ta) (hb:PE X (.BoolOp .Or (b::je) pos) tb):PE X (.BoolOp .Or (a::b::je) pos) (VI ta tb):=by
 intro af s σ H Q I h;refine BoolOp_or (cX (ha af s σ H _ I h) λv s1 ⟨x,H1,I1,r1,q1⟩=>?_);obtain⟨c,rfl,q1⟩:=q1;cases r1;refine wpAny_truthy_bool ?_;cases c with
 | false=>exact hb af s1 σ H1 Q I1 q1
 | true=>exact⟨.bl true,H1,I1,Z,q1⟩
def abe (ha:PE X a ta):PE X (.UnaryOp .Not a pos) (XY ta):=by
 intro af s σ H Q I h;refine UnaryOp_ (cX (ha af s σ H _ I h) λv s1 ⟨x,H1,I1,r1,q1⟩=>?_);obtain⟨c,rfl,q1⟩:=q1;cases r1;exact not_of (wpAny_truthy_bool ⟨.bl (!c),H1,I1,Z,q1⟩)
def tIf (t:TT) (ta tb:TE):TE:=λσ H Q=>t σ H λc H1=>if c=true then ta σ H1 Q else tb σ H1 Q
def VJ {c:Expr} (hc:PT X c tA) (ha:PE X a ta) (hb:PE X b tb):PE X (.IfExp c a b pos) (tIf tA ta tb):=by
 intro af s σ H Q I h;refine wpAny_IfExp (cX (hc af s σ H _ I h) λd s1 ⟨H1,I1,q1⟩=>?_);cases d with
 | true=>exact ha af s1 σ H1 Q I1 q1
 | false=>exact hb af s1 σ H1 Q I1 q1
end
def aO (K:ak) (H:Hp) (a:Addr) (xs:List V):Prop:=
 Rd H a (.lst xs)\/
  ∃(o:Obj) (bq:Array Value) (n:Nat),K.lookup a=some o/\o.cls=.type "list"/\o.dict=none/\o.data=.seq bq n/\bq.size<=sizeLine/\Vals xs bq.toList
def gN (K:ak) (H:Hp) (a:Addr) (xs:List V):Prop:=
 Rd H a (.tup xs)\/
  ∃(o:Obj) (bq:Array Value) (n:Nat),K.lookup a=some o/\o.cls=.type "tuple"/\o.data=.seq bq n/\bq.size<=sizeLine/\Vals xs bq.toList
def agQ:Value->Option V
 | .none=>some .cj
 | .bool b=>some (.bl b)
 | .int i _=>some (.int i)
 | .str x _=>some (.str x)
 | .bytes b _=>some (.vK b)
 | .float b _=>some (.S9 b)
 | .ref a=>some (.ref a)
 | .type n=>some (.ty n)
 | _=>none
def RelV.abs (r:RelV x u):agQ u=some x:=by
 cases x with
 | cj=>cases r;rfl
 | bl _=>cases r;rfl
 | int _=>obtain⟨t,rfl⟩:=r;rfl
 | str _=>obtain⟨t,rfl⟩:=r;rfl
 | vK _=>obtain⟨t,rfl⟩:=r;rfl
 | S9 _=>obtain⟨t,rfl⟩:=r;rfl
 | ref _=>cases r;rfl
 | ty _=>cases r;rfl
theorem RelV.inj {x y:V} {u:Value} (r:RelV x u) (q:RelV y u):x=y:=bN.inj (r.abs.symm.trans q.abs)
theorem Vals.inj :∀{xs ys:List V} {us:List Value},Vals xs us->Vals ys us->xs=ys
 | _,_,_,.nil,.nil=>rfl
 | _,_,_,.cons r t,.cons r' t'=>by rw[r.inj r',Vals.inj t t']
section
variable {X:Cx} {af:List (Addr × Obj)} {σ : St} {H:Hp} {s:Shared} {a:Addr} {xs ys:List V}
theorem aO.of {K:ak} (h:H a=some (.lst xs)):aO K H a xs:=.inl (.inl h)
theorem gN.of {K:ak} (h:H a=some (.tup xs)):gN K H a xs:=.inl (.inl h)
def Inv.list (I:Inv X af σ H s) (h:aO X.K H a xs) :∃bq:List Value,Vals xs bq/\PlainL s.heap a bq.toArray/\xs.length<=sizeLine:=by
 rcases h with h | ⟨o,bq,n,hk,hc,hd,hs,hz,r⟩
 ·obtain⟨z,bq,n,r,e⟩:=h.ok I.cM
  exact⟨bq,r,⟨_,n,e,Z,Z,Z⟩,z⟩
 refine⟨bq.toList,r,⟨o,n,I.j9 a o hk,hc,hd,by simpa using hs⟩,?_⟩;have e:=r.length;simp only[kh] at e
 lia
def Inv.tuple (I:Inv X af σ H s) (h:gN X.K H a xs) :∃bq:List Value,Vals xs bq/\IsTup s.heap a bq.toArray/\xs.length<=sizeLine:=by
 rcases h with h | ⟨o,bq,n,hk,hc,hs,hz,r⟩
 ·obtain⟨z,bq,r,p⟩:=h.ok I.cM
  exact⟨bq,r,p,z⟩
 refine⟨bq.toList,r,⟨o,I.j9 a o hk,hc,n,by simpa using hs⟩,?_⟩;have e:=r.length;simp only[kh] at e
 lia
def Inv.VL (I:Inv X af σ H s) (h:aO X.K H a xs) (h':aO X.K H a ys):xs=ys:=by
 obtain⟨bq,r,⟨o,n,e,_,_,d⟩,_⟩:=I.list h;obtain⟨its',r',⟨o',n',e',_,_,d'⟩,_⟩:=I.list h';rw[e] at e';cases e';rw[d] at d';injection d' with d1 _;have:bq=its':=by simpa using congrArg Array.toList d1
 subst this;exact r.inj r'
end
abbrev Cx.xp (X:Cx) (E:Value->Shared->Prop):Cx:={ X with xe:=E }
abbrev Cx.D9 (X:Cx):Cx:=X.xp λ_ _=>False
theorem Cx.Ok.xp {X:Cx} (ok:X.Ok) (E:Value->Shared->Prop):(X.xp E).Ok:=
 ⟨ok.mod,ok.kind,ok.glob,ok.blt,ok.above,ok.inj,ok.has,ok.Tb,ok.hd,ok.frames,ok.XS,ok.XT,ok.bs,ok.GQ,ok.ML,ok.MM,ok.yA,ok.MN⟩
theorem Cx.Ok.uf {X:Cx} {E:Value->Shared->Prop} (ok:(X.xp E).Ok):X.Ok:=
 ⟨ok.mod,ok.kind,ok.glob,ok.blt,ok.above,ok.inj,ok.has,ok.Tb,ok.hd,ok.frames,ok.XS,ok.XT,ok.bs,ok.GQ,ok.ML,ok.MM,ok.yA,ok.MN⟩
section
variable {X:Cx} {af:List (Addr × Obj)} {σ : St} {H:Hp} {s:Shared} {E:Value->Shared->Prop}
theorem Inv.xp (I:Inv X af σ H s) (E:Value->Shared->Prop):Inv (X.xp E) af σ H s:=⟨I.ok.xp E,I.os,I.bare,I.aS,I.loc,I.cell,I.free,I.oU,I.pin,I.cM,I.len⟩
theorem Inv.uf (I:Inv (X.xp E) af σ H s):Inv X af σ H s:=⟨I.ok.uf,I.os,I.bare,I.aS,I.loc,I.cell,I.free,I.oU,I.pin,I.cM,I.len⟩
theorem SP.uf {D:Ends} {f:Flow} {s':Shared} (h:SP (X.xp E) af D f s'):SP X af D f s':=by
 cases f with
 | next=>obtain⟨σ',H',I,q⟩:=h;exact⟨σ',H',I.uf,q⟩
 | brk=>obtain⟨σ',H',I,q⟩:=h;exact⟨σ',H',I.uf,q⟩
 | cont=>obtain⟨σ',H',I,q⟩:=h;exact⟨σ',H',I.uf,q⟩
 | ret u=>obtain⟨v,σ',H',I,r,q⟩:=h;exact⟨v,σ',H',I.uf,r,q⟩
theorem vM.D9 {st:List Stmt} {t:TS} (h:vM X.D9 st t):vM X st t:=λaf s σ H D I hw=>
 wpAny_mono (h af s σ H D (I.xp _) hw) (λ_ _ q=>q.uf) λ_ _ z=>False.elim z
end
section
variable {X:Cx} {st:Stmt} {je:List Stmt} {t u:TS} {e:Expr} {te:TE} {pos:Pos}
def Dk:TS:=λD σ H=>D.nx σ H
def rC (t u:TS):TS:=λD σ H=>t { D with nx:=u D } σ H
theorem Zf:vM X [] Dk:=λ_ _ σ H _ I h=>wpAny_execs_nil ⟨σ,H,I,h⟩
def VM (h1:PS X st t) (h2:vM X je u):vM X (st::je) (rC t u):=by
 intro af s σ H D I h;refine wpAny_execs_cons (cX (h1 af s σ H { D with nx:=u D } I h) λf s1 q=>?_);cases f with
 | next=>
  obtain⟨σ',H',I',q⟩:=q;exact h2 af s1 σ' H' D I' q
 | ret v=>exact q
 | brk=>exact q
 | cont=>exact q
def Zg (h1:PS X st t):vM X [st] t:=by
 intro af s σ H D I h;refine wpAny_execs_cons (cX (h1 af s σ H D I h) λf s1 q=>?_);cases f with
 | next=>exact wpAny_execs_nil q
 | ret v=>exact q
 | brk=>exact q
 | cont=>exact q
def Inv.quiet {af:List (Addr × Obj)} {σ : St} {H:Hp} {s:Shared} (I:Inv X af σ H s):interactive X.env=false:=by simp[interactive,I.ok.kind]
def Bo (te:TE):TS:=λD σ H=>te σ H λ_ H1=>D.nx σ H1
def Zh (he:PE X e te) (hs:swapsWith e none pos.line X.env=pure false:=by rfl):PS X (.Expr e pos) (Bo te):=by
 intro af s σ H D I h;exact wpAny_Expr_any (cX (he af s σ H _ I h) λv s1 ⟨x,H1,I1,r1,q1⟩=>⟨σ,H1,I1,q1⟩) I.quiet hs
def ql (te:TE):TS:=λD σ H=>te σ H D.rt
def abf (he:PE X e te):PS X (.Return (some e) pos) (ql te):=by
 intro af s σ H D I h;exact wpAny_Return_some (cX (he af s σ H _ I h) λv s1 ⟨x,H1,I1,r1,q1⟩=>⟨x,σ,H1,I1,r1,q1⟩)
def HH (c:TT) (t u:TS):TS:=λD σ H=>c σ H λb H1=>if b=true then t D σ H1 else u D σ H1
def aez {c:Expr} {a b:List Stmt} {tc:TT} (hc:PT X c tc) (ha:vM X a t) (hb:vM X b u):PS X (.If c a b pos) (HH tc t u):=by
 intro af s σ H D I h;refine wpAny_If (cX (hc af s σ H _ I h) λd s1 ⟨H1,I1,q1⟩=>?_);cases d with
 | true=>exact ha af s1 σ H1 D I1 q1
 | false=>exact hb af s1 σ H1 D I1 q1
end
abbrev TG:=V->St->Hp->(St->Hp->Prop)->Prop
abbrev PF:=List V->St->Hp->(St->Hp->Prop)->Prop
def PG (X:Cx) (target:Expr) (t:TG):Prop:=
 ∀(af:List (Addr × Obj)) (s:Shared) (σ : St) (H:Hp) (v:V) (u:Value) (Q:St->Hp->Prop),Inv X af σ H s->RelV v u->t v σ H Q->
  wpAny (model X.prog X.w) X.A (assign target X.env u) (λ_ s'=>∃σ' H',Inv X af σ' H' s'/\Q σ' H') X.xe s
def MQ (X:Cx) (ts:List Expr) (t:PF):Prop:=
 ∀(af:List (Addr × Obj)) (s:Shared) (σ : St) (H:Hp) (vs:List V) (us:List Value) (Q:St->Hp->Prop),Inv X af σ H s->Vals vs us->t vs σ H Q->
  wpAny (model X.prog X.w) X.A (assignInOrder ((assignEach ts X.env).map (·.2)) us) (λ_ s'=>∃σ' H',Inv X af σ' H' s'/\Q σ' H') X.xe s
abbrev VN:=V->V->V->Hp->(Hp->Prop)->Prop
def abg (X:Cx) (t:VN):Prop:=
 ∀(af:List (Addr × Obj)) (s:Shared) (σ : St) (H:Hp) (o i v:V) (ov iv u:Value) (Q:Hp->Prop),Inv X af σ H s->RelV o ov->RelV i iv->RelV v u->t o i v H Q->
  wpAny (model X.prog X.w) X.A (setItem ov iv u) (λ_ s'=>∃H',Inv X af σ H' s'/\Q H') X.xe s
abbrev TIp:=V->V->Hp->VK->Prop
def PIp (X:Cx) (op:Operator) (t:TIp):Prop:=
 ∀(af:List (Addr × Obj)) (s:Shared) (σ : St) (H:Hp) (x y:V) (v u:Value) (Q:VK),Inv X af σ H s->RelV x v->RelV y u->t x y H Q->
  wpAny (model X.prog X.w) X.A (inplaceOp op v u) (EP X af σ Q) X.xe s
section
variable {X:Cx} {pos:Pos}
def l5 (i:Nat):TG:=λv σ H Q=>Q (σ.set i (some v)) H
def Zi (hN:X.N.Nodup) (hi:X.N[i]?=some x) (hx:Loc X.env.scope x) (hf:X.fn x=true\/X.env.scope.names.lookup x=some .local:=by first | exact .inl rfl | exact .inr rfl | assumption):PG X (.Name x pos) (l5 i):=by
 intro af s σ H v u Q I r h;exact wpAny_assign_Name (Dh I hN hi hx r (λs' I'=>⟨_,H,I',h⟩) hf)
def abj:PF:=λvs σ H Q=>vs=[]/\Q σ H
inductive XZ (t:TG) (u:PF) (vs:List V) (σ : St) (H:Hp) (Q:St->Hp->Prop):Prop where
 | mk v r (_:vs=v::r) (_:t v σ H λσ' H'=>u r σ' H' Q)
def Zj:MQ X [] abj:=by
 intro af s σ H vs us Q I r h;obtain⟨e,h⟩:=h;subst e;cases r;exact assignInOrder_nil ⟨σ,H,I,h⟩
def VO {e:Expr} {es:List Expr} {t:TG} {u:PF} (h1:PG X e t) (h2:MQ X es u)
  (hs:(assignEach (e::es) X.env).map (·.2)=assign e X.env::(assignEach es X.env).map (·.2):=by rfl):MQ X (e::es) (XZ t u):=by
 intro af s σ H vs us Q I r h;obtain⟨v,vr,e1,h⟩:=h;subst e1;cases r with
 | cons r rr=>
  rw[hs];refine assignInOrder_cons (cX (h1 af s σ H _ _ _ I r h) λ_ s1 ⟨σ1,H1,I1,q1⟩=>?_);exact h2 af s1 σ1 H1 _ _ Q I1 rr q1
inductive abk (K:ak) (n:Nat) (t:PF) (v:V) (σ : St) (H:Hp) (Q:St->Hp->Prop):Prop where
 | mk a xs (_:v=.ref a) (_:gN K H a xs) (_:xs.length=n) (_:t xs σ H Q)
def abl (hc:X.calm=true) (h:MQ X es t)
  (hn:(assignEach es X.env).length=n:=by rfl) (fk:(assignEach es X.env).findIdx? (·.1)=none:=by rfl):PG X (.Tuple es k pos) (abk X.K n t):=by
 intro af s σ H v u Q I r hw;obtain⟨a,xs,e1,hq,hl,hw⟩:=hw;subst e1;cases r;obtain⟨bq,rv,ht,hz⟩:=I.tuple hq;refine assign_Tuple_tuple (I.ok.hd hc) ht (by simp[hn,<- hl,rv.length]) fk λh' hx=>?_;have I1:Inv X af σ H { s with heap:=h' }:=I.kept (t':=s.toks) λb o e=>hx b o (dR (bH e)) e;exact h af _ σ H xs _ Q I1 (by simpa using rv) hw
def RD (to ti:TE) (t:VN):TG:=λv σ H Q=>to σ H λo H1=>ti σ H1 λi H2=>t o i v H2 λH3=>Q σ H3
def abm {o i:Expr} {to ti:TE} {t:VN} (ho:PE X o to) (hi:PE X i ti) (hs:abg X t)
  (ha :∀v,assign (.Subscript o i pos) X.env v=(do
   let ov <- holding [v] (eval o X.env)
   let iv <- holding [v,ov] (eval i X.env)
   standAt pos
   holding [v,ov,iv] (setItem ov iv v)
   release [v,ov,iv] []):=by intro _;rfl):PG X (.Subscript o i pos) (RD to ti t):=by
 intro af s σ H v u Q I r h;rw[ha];refine wpAny_bind (wpAny_holding (cX (ho af s σ H _ I h) λov s1 ⟨x,H1,I1,r1,q1⟩=>?_));refine wpAny_bind (wpAny_holding (cX (hi af s1 σ H1 _ I1 q1) λiv s2 ⟨y,H2,I2,r2,q2⟩=>?_));refine wpAny_bind (wpAny_standAt (wpAny_bind (wpAny_holding (cX (hs af s2 σ H2 x y v ov iv u _ I2 r1 r2 r q2) λ_ s3 ⟨H3,I3,q3⟩=>?_))));exact wpAny_release ⟨σ,H3,I3,q3⟩
def vN (te:TE) (g:TG):TS:=λD σ H=>te σ H λx H1=>g x σ H1 D.nx
def abn {tg e:Expr} {te:TE} {g:TG} (he:PE X e te) (hg:PG X tg g) (hs:swapsWithSole [tg] e pos.line X.env=pure false:=by rfl) (hw:swappedStores [tg] e X.env=pure none:=by rfl)
  (h1:(assignEach [tg] X.env).map (·.2)=[assign tg X.env]:=by rfl):PS X (.Assign [tg] e pos) (vN te g):=by
 intro af s σ H D I h;refine wpAny_Assign_stores (cX (he af s σ H _ I h) λv s1 ⟨x,H1,I1,r1,q1⟩=>?_) hs hw;rw[h1];exact cX (hg af s1 σ H1 x v _ I1 r1 q1) λ_ s2 q=>q
def abo {i:Nat} {x:Str} {e:Expr} {te:TE} {jz:Pos} (hN:X.N.Nodup) (hi:X.N[i]?=some x) (hx:Loc X.env.scope x) (he:PE X e te) (hs:swapsWith e (some (.Name x jz)) pos.line X.env=pure false:=by rfl) (hf:X.fn x=true\/X.env.scope.names.lookup x=some .local:=by first | exact .inl rfl | exact .inr rfl | assumption) :
  PS X (.Assign [.Name x jz] e pos) (vN te (l5 i)):=by
 intro af s σ H D I h;refine wpAny_Assign_Name (cX (he af s σ H _ I h) λv s1 ⟨y,H1,I1,r1,q1⟩=>?_) hs;exact Dh I1 hN hi hx r1 (λs2 I2=>⟨_,H1,I2,q1⟩) hf
inductive RE (i:Nat) (te:TE) (ti:TIp) (D:Ends) (σ : St) (H:Hp):Prop where
 | mk x (_:σ[i]?=some (some x)) (_:te σ H λy H1=>ti x y H1 λz H2=>D.nx (σ.set i (some z)) H2)
def Te {i:Nat} {x:Str} {e:Expr} {te:TE} {op:Operator} {ti:TIp} {jz:Pos} (hN:X.N.Nodup) (hi:X.N[i]?=some x) (hx:Loc X.env.scope x) (he:PE X e te) (ho:PIp X op ti) (hf:X.fn x=true\/X.env.scope.names.lookup x=some .local:=by first | exact .inl rfl | exact .inr rfl | assumption) :
  PS X (.AugAssign (.Name x jz) op e pos) (RE i te ti):=by
 intro af s σ H D I h;obtain⟨v,e1,h⟩:=h;obtain⟨m,hn,hl⟩:=I.loc;have vis:Pz X.env.scope x:=by rcases hx with k | k;exact .inl k;exact .inr (.inl k)
 obtain⟨u,r,l⟩:=hl i x v hi e1 vis;refine wpAny_AugAssign_Name ?_;have go:wpAny (model X.prog X.w) X.A (eval e X.env) (λw s₂=>wpAny (model X.prog X.w) X.A (inplaceOp op u w) (λr s₃=>wpAny (model X.prog X.w) X.A (storeName X.env x r) (λ_=>SP X af D .next) X.xe s₃) X.xe s₂) X.xe s:=by
  refine cX (he af s σ H _ I h) λw s1 ⟨y,H1,I1,r1,q1⟩=>?_;refine cX (ho af s1 σ H1 v y u w _ I1 r r1 q1) λz s2 ⟨zv,H2,I2,r2,q2⟩=>?_;exact Dh I2 hN hi hx r2 (λs3 I3=>⟨_,H2,I3,q2⟩) hf
 rcases l with⟨hk,hm⟩ | ⟨hk,c,hc,Dj⟩
 ·exact wpAny_loadName_local I.ok.kind hk hn hm go
 rcases hk with hk | hk
 ·exact wpAny_loadName_cell I.ok.kind hk hc Dj go
 rcases hx with k | k
 ·have:X.env.scope.names.lookup x=some .free:=hk
  rw[k] at this;cases this
 have:X.env.scope.names.lookup x=some .free:=hk;rw[k] at this;cases this
inductive Tf (f:Int->Int->Int) (x:V) (y:V) (H:Hp) (Q:VK):Prop where
 | mk i j (_:x=.int i) (_:y=.int j) (_:Q (.int (f i j)) H)
def abp:PIp X .Add (Tf λi j=>i+j):=by
 intro af s σ H x y v u Q I r1 r2 h;obtain⟨i,j,e1,e2,q⟩:=h;subst e1;subst e2;obtain⟨t,rfl⟩:=r1;obtain⟨t',rfl⟩:=r2;exact iadd_int ⟨.int _,H,I.tok _,⟨_,Z⟩,q⟩
def abq:PIp X .Sub (Tf λi j=>i - j):=by
 intro af s σ H x y v u Q I r1 r2 h;obtain⟨i,j,e1,e2,q⟩:=h;subst e1;subst e2;obtain⟨t,rfl⟩:=r1;obtain⟨t',rfl⟩:=r2;exact isub_int ⟨.int _,H,I.tok _,⟨_,Z⟩,q⟩
end
section
variable {X:Cx} {pos:Pos}
inductive Tg (c:TT) (tb:TS) (D:Ends) (σ : St) (H:Hp):Prop where
 | mk (W:Nat->St->Hp->Prop) (_:(∃m,W m σ H)) (_ :∀m σ H,W m σ H->c σ H λb H1=>if b=true then∃N:St->Hp->Prop,(∀σ' H',N σ' H'->∃m',m' < m/\W m' σ' H')/\tb { D with nx:=N,ct:=N,bk:=D.nx } σ H1 else D.nx σ H1)
def VP {c:Expr} {body:List Stmt} {tc:TT} {tb:TS} (hp:PassesOwn (model X.prog X.w) X.A X.env X.xe) (hc:PT X c tc) (hb:vM X body tb):PS X (.While c body [] pos) (Tg tc tb):=by
 intro af s σ H D I h;obtain⟨W,⟨m0,w0⟩,turn⟩:=h;refine wpAny_While (codeAny_whileLoop (λn s'=>∃σ' H',Inv X af σ' H' s'/\W n σ' H') ?_ m0 ⟨σ,H,I,w0⟩);rintro n s1 ⟨σ1,H1,I1,w1⟩;refine wpAny_passesOwn hp (cX (hc af s1 σ1 H1 _ I1 (turn n σ1 H1 w1)) λb s2 ⟨H2,I2,q2⟩=>?_);cases b with
 | true=>
  obtain⟨N,hN,q2⟩:=q2;rw[if_pos rfl];refine wpAny_passesOwn hp (cX (hb af s2 σ1 H2 _ I2 q2) λf s3 q3=>?_);cases f with
  | next=>
   obtain⟨σ3,H3,I3,n3⟩:=q3;obtain⟨m',hm,w3⟩:=hN σ3 H3 n3;exact⟨m',hm,σ3,H3,I3,w3⟩
  | cont=>
   obtain⟨σ3,H3,I3,n3⟩:=q3;obtain⟨m',hm,w3⟩:=hN σ3 H3 n3;exact⟨m',hm,σ3,H3,I3,w3⟩
  | brk=>exact q3
  | ret v=>exact q3
 | false=>
  rw[if_neg bQ];exact wpAny_execs_nil ⟨σ1,H2,I2,q2⟩
end
structure It where
 go:Nat->Hp->Prop
 ET:Nat->Hp->V->Hp->Prop
 stop:Nat->Hp->Prop
def BZ (X:Cx) (af:List (Addr × Obj)) (H:Hp) (b:Addr):Prop:=
 H b=none/\b≠X.env.locals/\b∉X.fs/\(b∈X.ex\/X.mH.heap.objs.size<=b)/\(∀x c,X.env.cells.lookup x=some c->c≠b)/\∀p∈X.pn++af,p.1≠b
def Inv.RF {X:Cx} {af:List (Addr × Obj)} {σ : St} {H H':Hp} {s:Shared} {b:Addr} (I:Inv X af σ H s) (hb:s.heap.objs.size<=b) (hn:H' b=none):BZ X af H' b:=by
 refine⟨hn,Nat.ne_of_gt (b6 I.lt hb),I.agO hb,.inr (c8 I.sz hb),λx c e z=>?_,λp hp z=>?_⟩
 ·obtain⟨v,q⟩:=I.cell x c e
  exact absurd (b6 q.lt (by rw[z];exact hb)) (iF _)
 exact absurd (b6 (bH (I.pin p hp).1) (by rw[z];exact hb)) (iF _)
structure Turn (P:Program) (w:World) (K:ak) (tg:Expr) (J:It) (fp:List Addr) (it:Addr) (tn:Nat->Heap->Prop):Prop where
 mem:it∈fp
 obj :∀i h,tn i h->∀b∈fp,∃o,h.get? b=some o/\∀v,o.data≠.cell v
 keep :∀i h h',tn i h->(∀b∈fp,∀o,h.get? b=some o->h'.get? b=some o)->tn i h'
 item :∀(X:Cx),X.prog=P->X.w=w->X.K=K->X.calm=true->∀(i:Nat) (af:List (Addr × Obj)) (s:Shared) (σ : St) (H:Hp) (E:Value->Shared->Prop),Inv X af σ H s->(∀b∈fp,BZ X af H b)->tn i s.heap->J.go i H->
  wpAny (model P w) X.A (pyNext (.ref it)) (λr s1=>∃u,r=some u/\
   wpAny (model P w) X.A (letOwnedTupleGo tg (.ref it) u) (λ_ s2=>∃x H',Inv X af σ H' s2/\RelV x u/\J.ET i H x H'/\tn (i+1) s2.heap/\∀b∈fp,H' b=none) E s1) E s
 done :∀(X:Cx),X.prog=P->X.w=w->X.K=K->X.calm=true->∀(i:Nat) (af:List (Addr × Obj)) (s:Shared) (σ : St) (H:Hp) (E:Value->Shared->Prop),Inv X af σ H s->(∀b∈fp,BZ X af H b)->tn i s.heap->J.stop i H->
  wpAny (model P w) X.A (pyNext (.ref it)) (λr s1=>r=none/\Inv X af σ H s1) E s
 self :∀(A:Around) (i:Nat) (s:Shared) (Q:Value->Shared->Prop) (E:Value->Shared->Prop),tn i s.heap->Q (.ref it) s->wpAny (model P w) A (pyIter (.ref it)) Q E s
abbrev TI:=St->Hp->(It->Hp->Prop)->Prop
def PIE (X:Cx) (af:List (Addr × Obj)) (σ : St) (tg:Expr) (R:It->Hp->Prop) (itv:Value) (s2:Shared):Prop:=
 ∃(it:Addr) (fp:List Addr) (tn:Nat->Heap->Prop) (J:It) (H':Hp),itv=.ref it/\Inv X af σ H' s2/\Turn X.prog X.w X.K tg J fp it tn/\tn 0 s2.heap/\(∀b∈fp,BZ X af H' b)/\R J H'
def PI (X:Cx) (tg iter:Expr) (wi:TI):Prop:=
 ∀(af:List (Addr × Obj)) (s:Shared) (σ : St) (H:Hp) (R:It->Hp->Prop),Inv X af σ H s->wi σ H R->
  wpAny (model X.prog X.w) X.A (eval iter X.env) (λv s1=>wpAny (model X.prog X.w) X.A (pyIter v) (PIE X af σ tg R) X.xe s1) X.xe s
def RG (ho:s.heap.get? it=some o) (hc:o.cls=.type n) (hd:o.data=.fields vs)
  (hn:["enumerate","zip","dict_itemiterator","dict_reverseitemiterator","odict_iterator","itertools.zip_longest","itertools.pairwise"].contains n=false) (hQ:Q () s):wpAny M A (letOwnedTupleGo tg (.ref it) u) Q E s:=by
 unfold letOwnedTupleGo;cases tg <;> first
  | exact wpAny_pure hQ
  | (cases u <;> first
    | exact wpAny_pure hQ
    | (
      refine wpAny_bind (wpAny_load ho ?_);rw[hc,hd];show wpAny M A (if(["enumerate","zip","dict_itemiterator","dict_reverseitemiterator","odict_iterator","itertools.zip_longest","itertools.pairwise"].contains n&&vs[0]? == some (rawInt _))=true then _ else _) Q E s;rw[if_neg (by intro h;rw[hn,dr] at h;cases h)];exact wpAny_pure hQ))
def zW (K:ak) (a:Addr):It:=
 ⟨λi H=>∃xs x,aO K H a xs/\xs[i]?=some x,λi H x H'=>H'=H/\∀xs,aO K H a xs->xs[i]?=some x,λi H=>∃xs,aO K H a xs/\xs.length<=i⟩
def yX (lo:Int) (n:Nat):It:=⟨λi _=>i < n,λi H x H'=>H'=H/\x=.int (lo+i),λi _=>n<=i⟩
def Th {P:Program} {w:World} {K:ak} (a it:Addr):Turn P w K tg (zW K a) [it] it (λi h=>h.IsListIter it a i) where
 mem:=by simp
 obj:=λi h st b hb=>by
  have e:b=it:=by simpa using hb
  subst e;obtain⟨o,e,c,d⟩:=st;exact⟨o,e,λv z=>by rw[d] at z;cases z⟩
 keep:=λi h h' st k=>st.at λo e=>k it (by simp) o e
 item:=by
  intro X hP hw hK hc i af s σ H E I hf st hg;subst hP hw hK;obtain⟨xs,x,hq,hx⟩:=hg;obtain⟨bq,rv,p,hz⟩:=I.list hq;obtain⟨u,hu,ru⟩:=rv.get hx;obtain⟨f0,f1,f2,f3,f4,f5⟩:=hf it (by simp);refine wpAny_pyNext_list_item st p.isList (x:=u) (by simpa using hu) λh' jX sb=>?_;have I1:Inv X af σ H { s with heap:=h' }:=I.turned (t':=s.toks) (λb o hb e=>(sb.2 b hb).trans e) f0 f1 f3 f4 f5;obtain⟨o,e,c,d⟩:=id jX;exact⟨u,Z,RG (s:={ s with heap:=h' }) e c d (by decide) ⟨x,H,I1,ru,⟨Z,λys hy=>by rw[I.VL hy hq];exact hx⟩,jX,λb hb=>(hf b hb).1⟩⟩
 done:=by
  intro X hP hw hK hc i af s σ H E I hf st hg;subst hP hw hK;obtain⟨xs,hq,hx⟩:=hg;obtain⟨bq,rv,p,hz⟩:=I.list hq;obtain⟨f0,f1,f2,f3,f4,f5⟩:=hf it (by simp);have hl:=rv.length;exact wpAny_pyNext_list_end (I.ok.hd hc) st p.isList (by simp;lia) λh' eb=>⟨Z,I.turned (t':=s.toks) (λb o hb e=>eb b o hb e) f0 f1 f3 f4 f5⟩
 self:=λ_ _ _ _ _ st h=>wpAny_pyIter_listiter st h
def RH {P:Program} {w:World} {K:ak} (it:Addr) (lo:Int) (n:Nat):Turn P w K tg (yX lo n) [it] it (λi h=>IsRangeIter h it (lo+(i:Nat) * 1) ((n:Int) - (i:Nat)) 1) where
 mem:=by simp
 obj:=λi h st b hb=>by
  have e:b=it:=by simpa using hb
  subst e;exact⟨_,st,λv z=>by
   have z':Data.fields _=Data.cell v:=z;cases z'⟩
 keep:=λi h h' st k=>k it (by simp) _ st
 item:=by
  intro X hP hw hK hc i af s σ H E I hf st hg;subst hP hw hK;obtain⟨f0,f1,f2,f3,f4,f5⟩:=hf it (by simp);have W:=Walks.range (prog:=X.prog) (w:=X.w) (I.ok.hd hc) it lo 1 n;refine W.item i s _ _ hg st λv h' tk hv jX kk=>?_;obtain⟨t,rfl⟩:=hv;have I1:Inv X af σ H { s with heap:=h',toks:=tk }:=I.turned (λb o hb e=>kk b o (by simpa using hb) e) f0 f1 f3 f4 f5;refine⟨_,Z,RG (s:={ s with heap:=h',toks:=tk }) (n:="range_iterator") jX rfl rfl (by decide) ⟨.int (lo+i),H,I1,⟨t,?_⟩,⟨Z,Z⟩,jX,λb hb=>(hf b hb).1⟩⟩;rw[Int.mul_one]
 done:=by
  intro X hP hw hK hc i af s σ H E I hf st hg;subst hP hw hK;obtain⟨f0,f1,f2,f3,f4,f5⟩:=hf it (by simp);exact wpAny_pyNext_range_end (I.ok.hd hc) st (by have:n<=i:=hg;lia) λh' eb=>⟨Z,I.turned (t':=s.toks) (λb o hb e=>eb b o hb e) f0 f1 f3 f4 f5⟩
 self:=λ_ _ _ _ _ st h=>wpAny_pyIter_rangeiter st h
section
variable {X:Cx} {tg:Expr}
inductive Zk (K:ak) (R:It->Hp->Prop) (x:V) (H1:Hp):Prop where
 | mk a (_:x=.ref a) (_:(∃xs,aO K H1 a xs)) (_:R (zW K a) H1)
def X0 (K:ak) (tl:TE):TI:=λσ H R=>tl σ H λx H1=>Zk K R x H1
def Zl {l:Expr} {tl:TE} (hl:PE X l tl):PI X tg l (X0 X.K tl):=by
 intro af s σ H R I h;refine cX (hl af s σ H _ I h) λv s1 ⟨x,H1,I1,r1,q1⟩=>?_;obtain⟨a,e,⟨xs,hq⟩,q⟩:=q1;subst e;cases r1;obtain⟨bq,rv,p,hz⟩:=I1.list hq;refine wpAny_pyIter_list p.isList ?_;refine⟨s1.heap.objs.size,[s1.heap.objs.size],_,_,H1,Z,I1.kept (t':=s1.toks) λb o e=>bC _ e,Th a _,⟨_,dt _ rfl,Z,Z⟩,λb hb=>?_,q⟩;have e:b=s1.heap.objs.size:=by simpa using hb
 subst e;exact I1.RF (aN _) (I1.cM.fresh (aN _))
def MR {af:List (Addr × Obj)} {σ : St} {H:Hp} {s:Shared} {R:It->Hp->Prop} {E:Value->Shared->Prop} {lo hi:Int} {t u v:Tok} {tk:Nat} (I:Inv X af σ H s) (h1:-(2 ^ 62)<=lo) (h2:lo < 2 ^ 62) (h3:-(2 ^ 62)<=hi) (h4:hi < 2 ^ 62)
  (q:R (yX lo (hi - lo).toNat) H):wpAny (model X.prog X.w) X.A (pyIter (.ref s.heap.objs.size)) (PIE X af σ tg R) E { s with heap:=s.heap.push { cls:=.type "range",data:=.fields #[.int lo t,.int hi u,.int 1 v] },toks:=tk }:=by
 refine wpAny_pyIter_range (IsRange.new ..) (small_one h1 h2 h3 h4) ?_;have I1:Inv X af σ H { s with heap:=s.heap.push { cls:=.type "range",data:=.fields #[.int lo t,.int hi u,.int 1 v] },toks:=tk }:=I.kept λb o e=>bC _ e;refine⟨(s.heap.push { cls:=.type "range",data:=.fields #[.int lo t,.int hi u,.int 1 v] }).objs.size,[(s.heap.push { cls:=.type "range",data:=.fields #[.int lo t,.int hi u,.int 1 v] }).objs.size],_,_,H,Z,
  I1.kept (t':=tk) λb o e=>bC _ e,RH _ lo (hi - lo).toNat,?_,λb hb=>?_,q⟩
 ·have e1:lo+((0:Nat):Int) * 1=lo:=by simp
  have e2:(((hi - lo).toNat:Nat):Int) - ((0:Nat):Int)=Builtin.Range.rangeSize lo hi 1:=by rw[rangeSize_one];split <;> lia
  show IsRangeIter _ _ (lo+((0:Nat):Int) * 1) ((((hi - lo).toNat:Nat):Int) - ((0:Nat):Int)) 1;rw[e1,e2];exact dt _ rfl
 have e:b=(s.heap.push { cls:=.type "range",data:=.fields #[.int lo t,.int hi u,.int 1 v] }).objs.size:=by simpa using hb
 subst e;exact I1.RF (aN _) (I1.cM.fresh (aN _))
inductive Zm (R:It->Hp->Prop) (vs:List V) (H1:Hp):Prop where
 | mk (j:Int) (_:vs=[.int j]) (_:-(2 ^ 62)<=j) (_:j < 2 ^ 62) (_:R (yX 0 j.toNat) H1)
def aeA (ta:TA):TI:=λσ H R=>ta σ H λvs H1=>Zm R vs H1
inductive Zn (R:It->Hp->Prop) (vs:List V) (H1:Hp):Prop where
 | mk (i j:Int) (_:vs=[.int i,.int j]) (_:(-(2 ^ 62)<=i/\i < 2 ^ 62/\-(2 ^ 62)<=j/\j < 2 ^ 62)) (_:R (yX i (j - i).toNat) H1)
def aeB (ta:TA):TI:=λσ H R=>ta σ H λvs H1=>Zn R vs H1
def Ti (hg:Gl X "range") (hm:X.mg "range" = none) (ha:PA X [a] ta) (hs:starEach [a] X.env=[(false,eval a X.env)]:=by rfl):PI X tg (.Call (.Name "range" p) [a] [] pos) (aeA ta):=by
 intro af s σ H R I h;refine Call_ (IM I hg hm boot_range (PyProof.Rows.callWith_type1 (cX (ha pos af s σ H _ I h) λus s1 ⟨vs,H1,I1,r1,q1⟩=>?_) hs rfl));obtain⟨j,e,q1,q2,q⟩:=q1;subst e;cases r1 with
 | cons r rr=>
  cases rr;obtain⟨t,rfl⟩:=r;exact call_range_1 (MR I1 (by lia) (by lia) q1 q2 (by simpa using q))
def Tj (hg:Gl X "range") (hm:X.mg "range" = none) (ha:PA X [a,b] ta) (hs:starEach [a,b] X.env=[(false,eval a X.env),(false,eval b X.env)]:=by rfl) (vE:starEach [b] X.env=[(false,eval b X.env)]:=by rfl) :
  PI X tg (.Call (.Name "range" p) [a,b] [] pos) (aeB ta):=by
 intro af s σ H R I h;refine Call_ (IM I hg hm boot_range (PyProof.Rows.callWith_type1 (cX (ha pos af s σ H _ I h) λus s1 ⟨vs,H1,I1,r1,q1⟩=>?_) (by rw[hs,vE]) (by rw[vE];rfl)));obtain⟨i,j,e,⟨q1,q2,q3,q4⟩,q⟩:=q1;subst e;cases r1 with
 | cons r rr=>
  cases rr with
  | cons r' rr=>
   cases rr;obtain⟨t,rfl⟩:=r;obtain⟨t',rfl⟩:=r';exact call_range_2 (MR I1 q1 q2 q3 q4 q)
inductive MS (g:TG) (tb:TS) (D:Ends) (σ : St) (H:Hp) (J:It) (H1:Hp):Prop where
 | mk (W:Nat->Nat->St->Hp->Prop) (_:(∃m,W 0 m σ H1)) (_ :∀i m σ H,W i m σ H->(J.stop i H/\D.nx σ H)\/(J.go i H/\∃N:St->Hp->Prop,(∀σ' H',N σ' H'->∃m',m' < m/\W (i+1) m' σ' H')/\∀x H',J.ET i H x H'->g x σ H' λσ2 H2=>tb { D with nx:=N,ct:=N,bk:=D.nx } σ2 H2))
def abu (wi:TI) (g:TG) (tb:TS):TS:=λD σ H=>wi σ H λJ H1=>MS g tb D σ H J H1
def EU (fp:List Addr) (h:Heap):List (Addr × Obj):=fp.filterMap λb=>(h.get? b).map λo=>(b,o)
theorem Dl {fp:List Addr} {h:Heap} {b:Addr} {o:Obj} (hb:b∈fp) (e:h.get? b=some o):(b,o)∈EU fp h:=List.mem_filterMap.mpr ⟨b,hb,by rw[e];rfl⟩
def Tn (hp:p∈EU fp h):p.1∈fp/\h.get? p.1=some p.2:=by
 obtain⟨b,hb,e⟩:=List.mem_filterMap.mp hp;cases q:h.get? b with
 | none=>rw[q] at e;cases e
 | some o=>
  rw[q] at e;have e':(b,o)=p:=bN.inj e;subst e';exact⟨hb,q⟩
theorem Inv.pinned {af:List (Addr × Obj)} {σ : St} {H:Hp} {s:Shared} {fp:List Addr} (I:Inv X af σ H s) (hf :∀b∈fp,BZ X af H b) (ho :∀b∈fp,∃o,s.heap.get? b=some o/\∀v,o.data≠.cell v):Inv X (af++EU fp s.heap) σ H s:=
 I.PD λp hp=>(eY.mp hp).elim (λz=>I.pin p (gw _ z)) λz=>by
  obtain⟨hb,e⟩:=Tn z;obtain⟨f0,f1,f2,_⟩:=hf p.1 hb;obtain⟨o,e',d⟩:=ho p.1 hb;rw[e] at e';cases e';exact⟨e,f0,f1,f2,d⟩
theorem Inv.Dm {af pl:List (Addr × Obj)} {σ : St} {H:Hp} {s:Shared} (I:Inv X (af++pl) σ H s):Inv X af σ H s:=I.PD λp hp=>I.pin p (gw _ (List.mem_append_left _ hp))
def abv (hp:PassesOwn (model X.prog X.w) X.A X.env X.xe) (hc:X.calm=true) (hi:PI X tg iter wi) (hg:PG X tg g) (hb:vM X body tb)
  (hs :∀x,foldedSetIterable iter X.env x=pure x:=by intro _;rfl):PS X (.For tg iter body [] pos) (abu wi g tb):=by
 intro af s σ H D I h;refine wpAny_For (cX (hi af s σ H _ I h) λv s1 h1=>cX h1 λitv s2 h2=>?_) hs;obtain⟨it,fp,tn,J,H2,e,I2,T,PH,f2,W,⟨m0,w0⟩,turn⟩:=h2;subst e;have HI :∀{H':Hp},(∀b∈fp,H' b=none)->∀b∈fp,BZ X af H' b:=λhn b hb=>⟨hn b hb,(f2 b hb).2⟩
 refine codeAny_forLoop_any (λn s'=>∃i σ' H',Inv X af σ' H' s'/\tn i s'.heap/\(∀b∈fp,H' b=none)/\W i n σ' H') ?_ m0 ⟨0,σ,H2,I2,PH,λb hb=>(f2 b hb).1,w0⟩;rintro n s3 ⟨i,σ3,H3,I3,MT,fr3,w3⟩;rcases turn i n σ3 H3 w3 with⟨stop,qn⟩ | ⟨go,N,hN,step⟩
 ·refine wpAny_passesOwn hp (cX (T.done X rfl rfl rfl hc i af s3 σ3 H3 X.xe I3 (HI fr3) MT stop) λr s4 ⟨hr,I4⟩=>?_)
  subst hr;exact wpAny_execs_nil ⟨σ3,H3,I4,qn⟩
 refine wpAny_passesOwn hp (cX (T.item X rfl rfl rfl hc i af s3 σ3 H3 X.xe I3 (HI fr3) MT go) λr s4 ⟨u,hr,h4⟩=>?_);subst hr;refine wpAny_passesOwn hp (cX h4 λ_ s5 ⟨x,H5,I5,r5,y5,PJ,fr5⟩=>?_);have I5':=I5.pinned (HI fr5) (T.obj _ _ PJ);refine wpAny_passesOwn hp (cX (hg _ s5 σ3 H5 x u _ I5' r5 (step x H5 y5)) λ_ s6 ⟨σ6,H6,I6,q6⟩=>?_);refine wpAny_passesOwn hp (cX (hb _ s6 σ6 H6 _ I6 q6) λf s7 q7=>?_);have again :∀{σ7:St} {H7:Hp},Inv X (af++EU fp s5.heap) σ7 H7 s7->N σ7 H7->∃m,m < n/\∃i σ' H',Inv X af σ' H' s7/\tn i s7.heap/\(∀b∈fp,H' b=none)/\W i m σ' H':=λ{σ7 H7} I7 n7=>by
  obtain⟨m',hm,w7⟩:=hN σ7 H7 n7;refine⟨m',hm,i+1,σ7,H7,I7.Dm,T.keep _ _ _ PJ λb hb o e=>(I7.pin (b,o) (gw _ (gw _ (Dl hb e)))).1,λb hb=>?_,w7⟩;obtain⟨o,e,d⟩:=T.obj _ _ PJ b hb;exact(I7.pin (b,o) (gw _ (gw _ (Dl hb e)))).2.1
 cases f with
 | next=>obtain⟨σ7,H7,I7,n7⟩:=q7;exact again I7 n7
 | cont=>obtain⟨σ7,H7,I7,n7⟩:=q7;exact again I7 n7
 | brk=>obtain⟨σ7,H7,I7,q7⟩:=q7;exact⟨σ7,H7,I7.Dm,q7⟩
 | ret v=>obtain⟨x7,σ7,H7,I7,r7,q7⟩:=q7;exact⟨x7,σ7,H7,I7.Dm,r7,q7⟩
end
def jD {K:ak} (Pv:Nat->St->Hp->Prop) (h0:Pv 0 σ H) (hl :∀i σ H,i<=xs.length->Pv i σ H->aO K H a xs)
  (hs :∀i x σ H,xs[i]?=some x->Pv i σ H->g x σ H λσ2 H2=>tb { D with nx:=Pv (i+1),ct:=Pv (i+1),bk:=D.nx } σ2 H2) (hd :∀σ H,Pv xs.length σ H->D.nx σ H) :
  MS g tb D σ H0 (zW K a) H:=by
 refine⟨λi m σ H=>m=xs.length - i/\i<=xs.length/\Pv i σ H,⟨xs.length,by simp,bK _,h0⟩,?_⟩;rintro i m σ H ⟨rfl,hi,p⟩;have q:=hl i σ H hi p;by_cases kE:i < xs.length
 ·refine .inr ⟨⟨xs,xs[i],q,by simp[kE]⟩,Pv (i+1),λσ' H' p'=>⟨xs.length - (i+1),by lia,Z,kE,p'⟩,λx H' y=>?_⟩
  obtain⟨e,y⟩:=y;subst e;exact hs i x σ _ (y xs q) p
 have e:i=xs.length:=by lia
 subst e;exact .inl ⟨⟨xs,q,aN _⟩,hd σ H p⟩
def rW {lo:Int} {n:Nat} {g:TG} {tb:TS} {D:Ends} {σ : St} {H0 H:Hp} (Pv:Nat->St->Hp->Prop) (h0:Pv 0 σ H)
  (hs :∀i σ H,i < n->Pv i σ H->g (.int (lo+i)) σ H λσ2 H2=>tb { D with nx:=Pv (i+1),ct:=Pv (i+1),bk:=D.nx } σ2 H2) (hd :∀σ H,Pv n σ H->D.nx σ H) :
  MS g tb D σ H0 (yX lo n) H:=by
 refine⟨λi m σ H=>m=n - i/\i<=n/\Pv i σ H,⟨n,by simp,bK _,h0⟩,?_⟩;rintro i m σ H ⟨rfl,hi,p⟩;by_cases kE:i < n
 ·refine .inr ⟨kE,Pv (i+1),λσ' H' p'=>⟨n - (i+1),by lia,Z,kE,p'⟩,λx H' y=>?_⟩
  obtain⟨e,y⟩:=y;subst e y;exact hs i σ _ kE p
 have e:i=n:=by lia
 subst e;exact .inl ⟨aN _,hd σ H p⟩
abbrev R2:=V->V->Hp->VK->Prop
def mU (X:Cx) (f:Value->Value->Sem Value) (r:R2):Prop:=
 ∀(af:List (Addr × Obj)) (s:Shared) (σ : St) (H:Hp) (x y:V) (v u:Value) (Q:VK),Inv X af σ H s->RelV x v->RelV y u->r x y H Q->
  wpAny (model X.prog X.w) X.A (f v u) (EP X af σ Q) X.xe s
def UnR (X:Cx) (f:Value->Sem Value) (r:V->Hp->VK->Prop):Prop:=
 ∀(af:List (Addr × Obj)) (s:Shared) (σ : St) (H:Hp) (x:V) (v:Value) (Q:VK),Inv X af σ H s->RelV x v->r x H Q->
  wpAny (model X.prog X.w) X.A (f v) (EP X af σ Q) X.xe s
def qm (X:Cx) (f:Value) (r:List V->Hp->VK->Prop):Prop:=
 ∀(af:List (Addr × Obj)) (s:Shared) (σ : St) (H:Hp) (xs:List V) (us:List Value) (Q:VK),Inv X af σ H s->Vals xs us->r xs H Q->
  wpAny (model X.prog X.w) X.A (call f us) (EP X af σ Q) X.xe s
def agR (X:Cx) (r:V->Hp->(Bool->Hp->Prop)->Prop):Prop:=
 ∀(af:List (Addr × Obj)) (s:Shared) (σ : St) (H:Hp) (x:V) (v:Value) (Q:Bool->Hp->Prop),Inv X af σ H s->RelV x v->r x H Q->
  wpAny (model X.prog X.w) X.A (truthy v) (TP X af σ Q) X.xe s
def gI (r:R2) (ta tb:TE):TE:=λσ H Q=>ta σ H λx H1=>tb σ H1 λy H2=>r x y H2 Q
def tUn (r:V->Hp->VK->Prop) (ta:TE):TE:=λσ H Q=>ta σ H λx H1=>r x H1 Q
inductive rI (C:Int->Int->Prop) (g:Int->Int->V) (x:V) (y:V) (H:Hp) (Q:VK):Prop where
 | mk i j (_:x=.int i) (_:y=.int j) (_:C i j) (_:Q (g i j) H)
inductive oQ (g:Int->Int->V) (x:V) (y:V) (H:Hp) (Q:VK):Prop where
 | mk i j (_:x=.int i) (_:y=.int j) (_:Q (g i j) H)
inductive rU (g:Int->V) (x:V) (H:Hp) (Q:VK):Prop where
 | mk i (_:x=.int i) (_:Q (g i) H)
section
variable {X:Cx} {a b c:Expr} {ta tb tc:TE} {pos:Pos}
def VQ (ha:PE X a ta) (hb:PE X b tb) {af:List (Addr × Obj)} {s:Shared} {σ : St} {H:Hp} {R:V->V->Hp->Prop} (I:Inv X af σ H s)
  (h:ta σ H λx H1=>tb σ H1 λy H2=>R x y H2) {Q:Value->Shared->Prop} {f:Value->Value->Sem Value}
  (hf :∀v u s2 x y H2,Inv X af σ H2 s2->RelV x v->RelV y u->R x y H2->wpAny (model X.prog X.w) X.A (f v u) Q X.xe s2) :
  wpAny (model X.prog X.w) X.A (eval a X.env) (λv s₁=>wpAny (model X.prog X.w) X.A (eval b X.env) (λu s₂=>wpAny (model X.prog X.w) X.A (f v u) Q X.xe s₂) X.xe s₁) X.xe s:=by
 refine cX (ha af s σ H _ I h) λv s1 ⟨x,H1,I1,r1,q1⟩=>?_;refine cX (hb af s1 σ H1 _ I1 q1) λu s2 ⟨y,H2,I2,r2,q2⟩=>?_;exact hf v u s2 x y H2 I2 r1 r2 q2
def Bp {op:Operator} {r:R2} (ho:mU X (binaryOp op) r) (ha:PE X a ta) (hb:PE X b tb):PE X (.BinOp a op b pos) (gI r ta tb):=by
 intro af s σ H Q I h;exact wpAny_BinOp (VQ ha hb I h λv u s2 x y H2 I2 rx ry q=>ho af s2 σ H2 x y v u Q I2 rx ry q)
def aeC (ho:UnR X (unaryOp op) r) (ha:PE X a ta):PE X (.UnaryOp op a pos) (tUn r ta):=by
 intro af s σ H Q I h;exact UnaryOp_ (cX (ha af s σ H _ I h) λv s1 ⟨x,H1,I1,r1,q1⟩=>ho af s1 σ H1 x v Q I1 r1 q1)
def opI {f:Value->Value->Sem Value} {C:Int->Int->Prop} {g:Int->Int->Int}
  (rule :∀(i j:Int) (t u:Tok) (s:Shared) (Q:Value->Shared->Prop) (E:Value->Shared->Prop),C i j->Q (.int (g i j) s.toks) { s with toks:=s.toks+1 }->wpAny (model X.prog X.w) X.A (f (.int i t) (.int j u)) Q E s) :
  mU X f (rI C λi j=>.int (g i j)):=by
 intro af s σ H x y v u Q I rx ry h;obtain⟨i,j,rfl,rfl,hc,q⟩:=h;obtain⟨t,rfl⟩:=rx;obtain⟨t',rfl⟩:=ry;exact rule i j t t' s _ _ hc ⟨.int (g i j),H,I.tok _,⟨_,Z⟩,q⟩
def aby {f:Value->Value->Sem Value} {g:Int->Int->Int}
  (rule :∀(i j:Int) (t u:Tok) (s:Shared) (Q:Value->Shared->Prop) (E:Value->Shared->Prop),Q (.int (g i j) s.toks) { s with toks:=s.toks+1 }->wpAny (model X.prog X.w) X.A (f (.int i t) (.int j u)) Q E s) :
  mU X f (oQ λi j=>.int (g i j)):=by
 intro af s σ H x y v u Q I rx ry h;obtain⟨i,j,rfl,rfl,q⟩:=h;obtain⟨t,rfl⟩:=rx;obtain⟨t',rfl⟩:=ry;exact rule i j t t' s _ _ ⟨.int (g i j),H,I.tok _,⟨_,Z⟩,q⟩
def RI {f:Value->Value->Sem Value} {g:Int->Int->Bool}
  (rule :∀(i j:Int) (t u:Tok) (s:Shared) (Q:Value->Shared->Prop) (E:Value->Shared->Prop),Q (.bool (g i j)) s->wpAny (model X.prog X.w) X.A (f (.int i t) (.int j u)) Q E s) :
  mU X f (oQ λi j=>.bl (g i j)):=by
 intro af s σ H x y v u Q I rx ry h;obtain⟨i,j,rfl,rfl,q⟩:=h;obtain⟨t,rfl⟩:=rx;obtain⟨t',rfl⟩:=ry;exact rule i j t t' s _ _ ⟨.bl (g i j),H,I,Z,q⟩
def abz (i j:Int):Prop:=0 < j/\j < 1073741824
def Dn (i j:Int):Prop:=(-(2 ^ 64) < i/\i < 2 ^ 64)\/(-(2 ^ 64) < j/\j < 2 ^ 64)
def Dn.ok {i j:Int} (h:Dn i j):IntMulOk i j:=by
 rcases h with⟨h1,h2⟩ | ⟨h1,h2⟩
 ·exact .of_left (intBits_le_64 h1 h2)
 exact .of_right (intBits_le_64 h1 h2)
theorem abA:mU X (binaryOp .Add) (oQ λi j=>.int (i+j)):=aby λ_ _ _ _ _ _ _ q=>add_int q
theorem abB:mU X (binaryOp .Sub) (oQ λi j=>.int (i - j)):=aby λ_ _ _ _ _ _ _ q=>sub_int q
theorem abC:mU X (binaryOp .Mult) (rI Dn λi j=>.int (i * j)):=opI λ_ _ _ _ _ _ _ hc q=>mul_int q hc.ok
theorem Zo:mU X (binaryOp .FloorDiv) (rI abz λi j=>.int (i / j)):=opI λi j _ _ _ _ _ hc q=>by
 have h1:(0:Int) < j:=hc.1;have h2:j < 1073741824:=hc.2;exact floordiv_int (by lia) (by rw[Int.fdiv_eq_ediv_of_nonneg i (by lia)];exact q) (.inl (PyProof.noPylong_small (by lia)))
theorem abD:mU X (binaryOp .Mod) (rI (λ_ j=>0 < j) λi j=>.int (i % j)):=opI λi j _ _ _ _ _ hc q=>by
 have h1:(0:Int) < j:=hc;exact mod_int' (by lia) (by rw[Int.fmod_eq_emod_of_nonneg i (by lia)];exact q)
def unI {f:Value->Sem Value} {g:Int->Int}
  (rule :∀(i:Int) (t:Tok) (s:Shared) (Q:Value->Shared->Prop) (E:Value->Shared->Prop),Q (.int (g i) s.toks) { s with toks:=s.toks+1 }->wpAny (model X.prog X.w) X.A (f (.int i t)) Q E s) :
  UnR X f (rU λi=>.int (g i)):=by
 intro af s σ H x v Q I rx h;obtain⟨i,rfl,q⟩:=h;obtain⟨t,rfl⟩:=rx;exact rule i t s _ _ ⟨.int (g i),H,I.tok _,⟨_,Z⟩,q⟩
theorem abE:UnR X (unaryOp .USub) (rU λi=>.int (-i)):=unI λ_ _ _ _ _ q=>neg_int q
end
def abF:V->V->Bool
 | .cj,.cj=>true | .cj,.int _=>true | .int _,.cj=>true | .cj,.bl _=>true | .bl _,.cj=>true | .cj,.str _=>true | .str _,.cj=>true
 | .int _,.int _=>true | .bl _,.bl _=>true | .str _,.str _=>true | .vK _,.vK _=>true
 | .int _,.str _=>true | .str _,.int _=>true | .bl _,.str _=>true | .str _,.bl _=>true
 | _,_=>false
def PK:R2:=λx y H Q=>abF x y=true/\Q (.bl (decide (x=y))) H
def X4:R2:=λx y H Q=>abF x y=true/\Q (.bl (!decide (x=y))) H
def PL:decide (V.int i=V.int j)=(i == j):=by
 rw[ib];simp
def To:decide (V.bl i=V.bl j)=(i == j):=by
 rw[ib];simp
def Gi:decide (V.str i=V.str j)=(i == j):=by
 rw[ib];simp
def PM:decide (V.vK i=V.vK j)=(i.toList == j.toList):=by
 rw[ib];cases i;cases j;simp
section
variable {X:Cx} {a b c:Expr} {ta tb tc:TE} {pos:Pos}
def fN (I:Inv X af σ H s) (q:Q (.bl k) H) (e:k=k'):EP X af σ Q (.bool k') s:=by
 subst e;exact⟨.bl k,H,I,Z,q⟩
def X5:mU X (compareOp .Eq) PK:=by
 intro af s σ H x y v u Q I rx ry h;obtain⟨hs,q⟩:=h;cases x with
 | cj=>
  cases rx;cases y with
  | cj=>cases ry;exact PySem.EqNone.eq_none_none (fN I q (by simp))
  | bl j=>cases ry;exact PySem.EqNone.eq_none_bool (fN I q (by simp))
  | int j=>obtain⟨t',rfl⟩:=ry;exact PySem.EqNone.eq_none_int (fN I q (by simp))
  | str j=>obtain⟨t',rfl⟩:=ry;exact PySem.EqNone.eq_none_str (fN I q (by simp))
  | _=>exact absurd (show false=true from hs) bQ
 | bl i=>
  cases rx;cases y with
  | cj=>cases ry;exact PySem.EqNone.eq_bool_none (fN I q (by simp))
  | bl j=>cases ry;exact eq_bool (fN I q To)
  | str j=>obtain⟨t',rfl⟩:=ry;exact PySem.EqMixed.eq_bool_str (fN I q (by simp))
  | _=>exact absurd (show false=true from hs) bQ
 | int i=>
  obtain⟨t,rfl⟩:=rx;cases y with
  | cj=>cases ry;exact PySem.EqNone.eq_int_none (fN I q (by simp))
  | int j=>obtain⟨t',rfl⟩:=ry;exact eq_int (fN I q PL)
  | str j=>obtain⟨t',rfl⟩:=ry;exact PySem.EqMixed.eq_int_str (fN I q (by simp))
  | _=>exact absurd (show false=true from hs) bQ
 | str i=>
  obtain⟨t,rfl⟩:=rx;cases y with
  | cj=>cases ry;exact PySem.EqNone.eq_str_none (fN I q (by simp))
  | bl j=>cases ry;exact PySem.EqMixed.eq_str_bool (fN I q (by simp))
  | int j=>obtain⟨t',rfl⟩:=ry;exact PySem.EqMixed.eq_str_int (fN I q (by simp))
  | str j=>obtain⟨t',rfl⟩:=ry;exact eq_str (fN I q Gi)
  | _=>exact absurd (show false=true from hs) bQ
 | vK i=>
  obtain⟨t,rfl⟩:=rx;cases y with
  | vK j=>obtain⟨t',rfl⟩:=ry;exact PySem.W.eq_bytes (fN I q PM)
  | _=>exact absurd (show false=true from hs) bQ
 | _=>cases y <;> exact absurd (show false=true from hs) bQ
def X6:mU X (compareOp .NotEq) X4:=by
 intro af s σ H x y v u Q I rx ry h;obtain⟨hs,q⟩:=h;cases x with
 | cj=>
  cases rx;cases y with
  | cj=>cases ry;exact PySem.EqNone.ne_none_none (fN I q (by simp))
  | bl j=>cases ry;exact PySem.EqNone.ne_none_bool (fN I q (by simp))
  | int j=>obtain⟨t',rfl⟩:=ry;exact PySem.EqNone.ne_none_int (fN I q (by simp))
  | str j=>obtain⟨t',rfl⟩:=ry;exact PySem.EqNone.ne_none_str (fN I q (by simp))
  | _=>exact absurd (show false=true from hs) bQ
 | bl i=>
  cases rx;cases y with
  | cj=>cases ry;exact PySem.EqNone.ne_bool_none (fN I q (by simp))
  | bl j=>cases ry;exact ne_bool (fN I q (congrArg not To))
  | str j=>obtain⟨t',rfl⟩:=ry;exact PySem.EqMixed.ne_bool_str (fN I q (by simp))
  | _=>exact absurd (show false=true from hs) bQ
 | int i=>
  obtain⟨t,rfl⟩:=rx;cases y with
  | cj=>cases ry;exact PySem.EqNone.ne_int_none (fN I q (by simp))
  | int j=>obtain⟨t',rfl⟩:=ry;exact ne_int (fN I q (congrArg not PL))
  | str j=>obtain⟨t',rfl⟩:=ry;exact PySem.EqMixed.ne_int_str (fN I q (by simp))
  | _=>exact absurd (show false=true from hs) bQ
 | str i=>
  obtain⟨t,rfl⟩:=rx;cases y with
  | cj=>cases ry;exact PySem.EqNone.ne_str_none (fN I q (by simp))
  | bl j=>cases ry;exact PySem.EqMixed.ne_str_bool (fN I q (by simp))
  | int j=>obtain⟨t',rfl⟩:=ry;exact PySem.EqMixed.ne_str_int (fN I q (by simp))
  | str j=>obtain⟨t',rfl⟩:=ry;exact ne_str (fN I q (congrArg not Gi))
  | _=>exact absurd (show false=true from hs) bQ
 | vK i=>
  obtain⟨t,rfl⟩:=rx;cases y with
  | vK j=>obtain⟨t',rfl⟩:=ry;exact PySem.W.ne_bytes (fN I q (congrArg not PM))
  | _=>exact absurd (show false=true from hs) bQ
 | _=>cases y <;> exact absurd (show false=true from hs) bQ
theorem Mt:mU X (compareOp .Lt) (oQ λi j=>.bl (decide (i < j))):=RI λ_ _ _ _ _ _ _ q=>lt_int q
theorem Dq:mU X (compareOp .LtE) (oQ λi j=>.bl (decide (i<=j))):=RI λ_ _ _ _ _ _ _ q=>le_int q
theorem X7:mU X (compareOp .Gt) (oQ λi j=>.bl (decide (j < i))):=RI λ_ _ _ _ _ _ _ q=>gt_int q
theorem aeD:mU X (compareOp .GtE) (oQ λi j=>.bl (decide (j<=i))):=RI λ_ _ _ _ _ _ _ q=>ge_int q
def qG (b:Expr) (h:op≠.In:=by decide) (h2:op≠.NotIn:=by decide):behindInMarks op b=false:=by
 have e1:(op == CmpOp.In)=false:=by cases op <;> first | rfl | exact absurd rfl h
 have e2:(op == CmpOp.NotIn)=false:=by cases op <;> first | rfl | exact absurd rfl h2
 cases b <;> simp[behindInMarks,e1,e2]
def Zp {op:CmpOp} {r:R2} (ho:mU X (compareOp op) r) (ha:PE X a ta) (hb:PE X b tb) (hm:behindInMarks op b=false):PE X (.Compare a [op] [b] pos) (gI r ta tb):=by
 intro af s σ H Q I h;exact wpAny_Compare1 (VQ ha hb I h λv u s2 x y H2 I2 rx ry q=>ho af s2 σ H2 x y v u Q I2 rx ry q) hm
def oV (t:TE):TT:=λσ H Q=>t σ H λx H'=>aa5 Q x H'
def Zq (ho:mU X (compareOp op) r) (ha:PE X a ta) (hb:PE X b tb) (hm:behindInMarks op b=false):PT X (.Compare a [op] [b] pos) (oV (gI r ta tb)):=by
 intro af s σ H Q I h;refine wpAny_isTrue_Compare1 (cX (ha af s σ H _ I h) λv s1 ⟨x,H1,I1,r1,q1⟩=>cX (hb af s1 σ H1 _ I1 q1) λu s2 ⟨y,H2,I2,r2,q2⟩=>
  cX (ho af s2 σ H2 x y v u _ I2 r1 r2 q2) λc s3 ⟨z,H3,I3,r3,k,e,q3⟩=>?_) hm
 subst e;cases r3;exact wpAny_truthy_bool ⟨H3,I3,q3⟩
inductive VR (r':R2) (tc:TE) (σ : St) (Q:VK) (y:V) (z:V) (H3:Hp):Prop where
 | mk k (_:z=.bl k) (_:(if k=true then tc σ H3 λw' H4=>r' y w' H4 Q else Q (.bl false) H3))
def ye (r r':R2) (ta tb tc:TE):TE:=λσ H Q=>ta σ H λx H1=>tb σ H1 λy H2=>r x y H2 λz H3=>VR r' tc σ Q y z H3
def MU (ho:mU X (compareOp op) r) (Bn:mU X (compareOp Tp) r') (ha:PE X a ta) (hb:PE X b tb) (hc:PE X c tc)
  (hm:lastMarks [op,Tp] [b,c]=false:=by with_unfolding_all rfl):PE X (.Compare a [op,Tp] [b,c] pos) (ye r r' ta tb tc):=by
 intro af s σ H Q I h;refine Compare_chain (cX (ha af s σ H _ I h) λv s1 ⟨x,H1,I1,r1,q1⟩=>chain_link (cX (hb af s1 σ H1 _ I1 q1) λu s2 ⟨y,H2,I2,r2,q2⟩=>
  cX (ho af s2 σ H2 x y v u _ I2 r1 r2 q2) λd s3 ⟨z,H3,I3,r3,k,e,q3⟩=>?_)) hm
 subst e;cases r3;refine wpAny_truthy_bool ?_;cases k with
 | false=>exact ite_ff ⟨.bl false,H3,I3,Z,q3⟩
 | true=>exact ite_tt (chain_last (cX (hc af s3 σ H3 _ I3 q3) λw' s4 ⟨z',H4,I4,r4,q4⟩=>Bn af s4 σ H4 y z' u w' Q I4 r2 r4 q4))
def MV (ho:mU X (compareOp op) r) (Bn:mU X (compareOp Tp) r') (ha:PE X a ta) (hb:PE X b tb) (hc:PE X c tc)
  (hm:lastMarks [op,Tp] [b,c]=false:=by with_unfolding_all rfl):PT X (.Compare a [op,Tp] [b,c] pos) (oV (ye r r' ta tb tc)):=by
 intro af s σ H Q I h;refine isTrue_chain (cX (ha af s σ H _ I h) λv s1 ⟨x,H1,I1,r1,q1⟩=>test_link (cX (hb af s1 σ H1 _ I1 q1) λu s2 ⟨y,H2,I2,r2,q2⟩=>
  cX (ho af s2 σ H2 x y v u _ I2 r1 r2 q2) λd s3 ⟨z,H3,I3,r3,k,e,q3⟩=>?_)) hm
 subst e;cases r3;refine wpAny_truthy_bool ?_;cases k with
 | false=>
  obtain⟨k',e',q'⟩:=q3;cases e';exact ite_ff ⟨H3,I3,q'⟩
 | true=>
  refine ite_tt (test_last (cX (hc af s3 σ H3 _ I3 q3) λw' s4 ⟨z',H4,I4,r4,q4⟩=>cX (Bn af s4 σ H4 y z' u w' _ I4 r2 r4 q4) λd' s5 ⟨z2,H5,I5,r5,k2,e2,q5⟩=>?_));subst e2;cases r5;exact wpAny_truthy_bool ⟨H5,I5,q5⟩
def VS (K:ak) (x:V) (H:Hp) (k:Bool):Prop:=
 match x with
 | .cj=>k=false
 | .bl b=>k=b
 | .int i=>k=(i != 0)
 | .str y=>y.length<=sizeLine/\k=((y.length:Int) != 0)
 | .vK y=>y.size<=sizeLine/\k=((y.size:Int) != 0)
 | .ref p=>(∃xs,aO K H p xs/\k = !xs.isEmpty)\/(∃xs,gN K H p xs/\k = !xs.isEmpty)\/∃fV,H p=some (.dK fV)/\k = !fV.isEmpty
 | _=>False
def RJ {κ : Type} {fV:List (κ × V)} {vs:List (κ × Value)} (r:KV fV vs):(!vs.isEmpty) = !fV.isEmpty:=by
 cases r <;> rfl
def IQ {xs:List V} {bq:List Value} (r:Vals xs bq):(!bq.toArray.isEmpty) = !xs.isEmpty:=by
 cases r <;> simp
def Cy:(sizeLine:Nat) < 2 ^ 63:=by rw[sizeLine_eq];decide
def abG:agR X (λx H Q=>∃k,VS X.K x H k/\Q k H):=by
 intro af s σ H x v Q I rx h;obtain⟨k,e,q⟩:=h;have hl:=Cy;have hs:sizeLine=16777216:=sizeLine_eq;cases x with
 | cj=>
  cases rx;have e':k=false:=e;subst e';exact truthy_none ⟨H,I,q⟩
 | bl b=>
  cases rx;have e':k=b:=e;subst e';exact wpAny_truthy_bool ⟨H,I,q⟩
 | int i=>
  obtain⟨t,rfl⟩:=rx;have e':k=(i != 0):=e;subst e';exact PySem.P.truthy_int ⟨H,I,q⟩
 | str y=>
  obtain⟨t,rfl⟩:=rx;obtain⟨hy,e'⟩:y.length<=sizeLine/\k=((y.length:Int) != 0):=e;subst e';exact PySem.P.truthy_str (by lia) ⟨H,I.tok _,q⟩
 | vK y=>
  obtain⟨t,rfl⟩:=rx;obtain⟨hy,e'⟩:y.size<=sizeLine/\k=((y.size:Int) != 0):=e;subst e';exact PySem.W.truthy_bytes (by lia) ⟨H,I.tok _,q⟩
 | ref p=>
  cases rx;have e':(∃xs,aO X.K H p xs/\k = !xs.isEmpty)\/(∃xs,gN X.K H p xs/\k = !xs.isEmpty)\/∃fV,H p=some (.dK fV)/\k = !fV.isEmpty:=e;rcases e' with⟨xs,hx,e'⟩ | ⟨xs,hx,e'⟩ | ⟨fV,hx,e'⟩
  ·subst e'
   obtain⟨bq,r,pl,hz⟩:=I.list hx;have eP:=r.length;exact wpAny_truthy_list pl.isList (by simp only[bz];lia) ⟨H,I.tok _,by rw[IQ r];exact q⟩
  ·subst e'
   obtain⟨bq,r,pl,hz⟩:=I.tuple hx;have eP:=r.length;exact truthy_tuple pl (by simp only[bz];lia) ⟨H,I.tok _,by rw[IQ r];exact q⟩
  subst e';obtain⟨hz,hS,vs,r,m⟩:fV.length<=sizeLine/\(p == sysModules)=false/\∃vs,KV fV vs/\s.heap.DictOf (lq X.prog X.w) p vs:=I.cM p _ hx;have eP:fV.length=vs.length:=Paired.length r;exact wpAny_truthy_dict hS m (by lia) ⟨H,I.tok _,by rw[RJ r];exact q⟩
 | _=>exact(show False from e).elim
def VT (ha:PE X a ta) (he :∀whole,isTrue a X.env whole=(do let v <- whole;standAt a.pos;holding [v] (truthy v))) :
  PT X a (λσ H Q=>ta σ H λx H'=>∃k,VS X.K x H' k/\Q k H'):=by
 intro af s σ H Q I h;exact isTrue_plain (cX (ha af s σ H _ I h) λv s1 ⟨x,H1,I1,r1,q1⟩=>abG af s1 σ H1 x v Q I1 r1 q1) (he _)
def RK:mU X (binaryOp .Add) (λx y H Q=>∃i j,x=.str i/\y=.str j/\i.length+j.length<=sizeLine/\Q (.str (i++j)) H):=by
 intro af s σ H x y v u Q I rx ry h;obtain⟨i,j,rfl,rfl,hz,q⟩:=h;obtain⟨t,rfl⟩:=rx;obtain⟨t',rfl⟩:=ry;exact add_str (λt' tk=>⟨.str (i++j),H,I.tok _,⟨_,Z⟩,q⟩) hz
def vals1 (r:Vals [x] us) :∃u,us=[u]/\RelV x u:=by
 cases r with
 | cons r1 r2=>cases r2;exact⟨_,Z,r1⟩
def vals2 (r:Vals [x,y] us) :∃u w',us=[u,w']/\RelV x u/\RelV y w':=by
 cases r with
 | cons r1 r2=>
  cases r2 with
  | cons r3 r4=>cases r4;exact⟨_,_,Z,r1,r3⟩
def VU:qm X (.builtin "abs") (λxs H Q=>∃i,xs=[.int i]/\Q (.int (if i < 0 then -i else i)) H):=by
 intro af s σ H xs us Q I r h;obtain⟨i,rfl,q⟩:=h;obtain⟨u,rfl,t,rfl⟩:=vals1 r;exact call_abs_int λu tk=>⟨.int (if i < 0 then -i else i),H,I.tok _,⟨_,Z⟩,q⟩
def Tq (hc:X.calm=true):qm X (.builtin "max") (λxs H Q=>∃i j,xs=[.int i,.int j]/\Q (.int (if j > i then j else i)) H):=by
 intro af s σ H xs us Q I r h;obtain⟨i,j,rfl,q⟩:=h;obtain⟨u,w',rfl,⟨t,rfl⟩,⟨t',rfl⟩⟩:=vals2 r;refine max_two_ints (I.ok.hd hc) λh' tk k=>⟨_,H,I.kept k,?_,q⟩
 by_cases hj:j > i
 ·rw[if_pos hj,if_pos hj];exact⟨_,Z⟩
 rw[if_neg hj,if_neg hj];exact⟨_,Z⟩
def Tr (hc:X.calm=true):qm X (.builtin "min") (λxs H Q=>∃i j,xs=[.int i,.int j]/\Q (.int (if j < i then j else i)) H):=by
 intro af s σ H xs us Q I r h;obtain⟨i,j,rfl,q⟩:=h;obtain⟨u,w',rfl,⟨t,rfl⟩,⟨t',rfl⟩⟩:=vals2 r;refine min_two_ints (I.ok.hd hc) λh' tk k=>⟨_,H,I.kept k,?_,q⟩
 by_cases hj:j < i
 ·rw[if_pos hj,if_pos hj];exact⟨_,Z⟩
 rw[if_neg hj,if_neg hj];exact⟨_,Z⟩
def MW:qm X (.type "str") (λxs H Q=>∃i,xs=[.int i]/\i.natAbs.log2 < 1920/\Q (.str (toString i)) H):=by
 intro af s σ H xs us Q I r h;obtain⟨i,rfl,hz,q⟩:=h;obtain⟨u,rfl,t,rfl⟩:=vals1 r;exact PySem.P.str_of_int hz ⟨.str _,H,I.tok _,⟨_,Z⟩,q⟩
def VV:qm X (.builtin "ord") (λxs H Q=>∃x,xs=[.str x]/\x.length=1/\Q (.int (x.cps.getD 0 0:Nat)) H):=by
 intro af s σ H xs us Q I r h;obtain⟨x,rfl,hz,q⟩:=h;obtain⟨u,rfl,t,rfl⟩:=vals1 r;exact ord_of_one hz ⟨.int _,H,I.tok _,⟨_,Z⟩,q⟩
end
structure HJ (h:Heap) (x dx C:Addr) (mA:Str->Option Value):Prop where
 obj:h.get? x=some (jL C dx)
 ns:h.Ns1 dx mA
 ne:dx≠x
def Ts {h:Heap} {dx:Addr} {mA:Str->Option Value} (n:h.Ns1 dx mA) :∃od,h.get? dx=some od/\∀name,xQ name od=some (mA name):=by
 obtain⟨o,es,ep,ho,hd,hk,_,hm⟩:=n;refine⟨o,ho,λname=>?_⟩;have e:=hm name;unfold nsFind findBy at e;rw[<- Array.find?_toList] at e;unfold xQ;rw[hd];dsimp only;split
 ·rename_i y q
  rw[q] at e;exact congrArg some e
 rename_i q;rw[q] at e;have a:es.toList.any (·.refKey)=false:=by
  rw[List.any_eq_false];intro y hy;obtain⟨z,t,agS⟩:=hk y (wV.mp hy);simp[DictEntry.refKey,agS]
 have a':¬ es.toList.any (·.refKey)=true:=by rw[a];exact bQ
 rw[if_neg a'];exact congrArg some e
theorem HJ.look (I:HJ h x dx C mA) :∃od,PySem.W.InstAt h x (jL C dx) C (some od)/\∀name,xQ name od=some (mA name):=
 let⟨od,ho,hl⟩:=Ts I.ns
 ⟨od,⟨I.obj,Z,Z,ho⟩,hl⟩
section
variable {prog:Program} {w:World} {A:Around} {E:Value->Shared->Prop} {s:Shared} {K:ak} {x dx C f:Addr} {mA:Str->Option Value} {name:Str} {v:Value}
def get_map (X:K.In s.heap) (I:HJ s.heap x dx C mA) (hg:uX K C name=true) (hh:zh K C=true)
  (ha:bA K (.ref C) name=some none) (hv:mA name=some v) (X8:PySem.W.handedIn v=true) (h:Q v { s with toks:=s.toks+1 }) :
  wpAny (model prog w) A (getAttr (.ref x) name expr) Q E s:=by
 obtain⟨od,J,hl⟩:=I.look;exact PySem.W.get_value X J (xl hg).1 (PySem.W.findObj_own hh ha rfl (by rw[hl,hv])) X8 h
def VW (X:K.In s.heap) (I:HJ s.heap x dx C mA) (hg:uX K C name=true)
  (hf:bA K (.ref C) name=some (some (.ref f))) (ht:Ga K (.ref f)=true) (hv:mA name=none) (h:Q (.ref f,[.ref x]) s) :
  wpAny (model prog w) A (getMethod (.ref x) name pl) Q E s:=by
 obtain⟨od,J,hl⟩:=I.look;exact PySem.W.method_fn X J (xl hg).1 (xl hg).2 hf (beq_iff_eq.mp ht) (by show(xQ name od).map (·.isSome)=some false;rw[hl,hv];rfl) h
def Zr (X:K.In s.heap) (I:HJ s.heap x dx C mA)
  (hs:bA K (.ref C) "__setattr__" = some (some (.builtin "object.__setattr__"))) (hp:PySem.W.plainOver K C=true) (ht:BP K C name=some none) (hh:zh K C=true)
  (hw:PySem.Within mA ns) (hsz:ns.length<=sizeLine)
  (h :∀h',HJ h' x dx C (λy=>if y=name then some v else mA y)->A9 dx s.heap h'->Q () { s with heap:=h',toks:=s.toks+2 }) :
  wpAny (model prog w) A (setAttr (.ref x) name v) Q E s:=by
 obtain⟨od,J,hl⟩:=I.look;refine PySem.W.set_plain X J hs (PySem.W.osa_open (s:={ s with toks:=s.toks+1 }) (r:=none) X J hp ht λb=>?_);obtain⟨cd,hc,Pp⟩:=PySem.W.any_some hh;have hx:s.heap.get? x=some ⟨.ref C,some dx,.plain,#[]⟩:=I.obj;refine wpAny_bind (wpAny_pure (wpAny_bind (wpAny_bind (wpAny_loadPart hx (wpAny_bind (PySem.W.Looks.here (s:={ s with toks:=s.toks+1 }) (PySem.W.looks_clsIn X hc) ?_))))));rw[Pp];refine wpAny_pure (a:=some dx) (wpAny_bind (wpAny_pure (wpAny_bind ?_)));refine wpAny_nsSet1 (s:={ s with toks:=s.toks+1 }) I.ns λh' X9 vE=>?_;obtain⟨oD,esD,epD,hoD,hdD,hcD⟩:=X9.count (PySem.Within.cons name v hw);refine wpAny_bind (wpAny_lookBehind hoD (by rw[hdD];exact pastItsLine_dict (c8 hcD (by rw[aV];lia))) ?_);exact wpAny_pure (h _ ⟨(vE.2 _ (Ne.symm I.ne)).trans I.obj,X9,I.ne⟩ vE)
def VX (X:K.In s.heap) (hm:PySem.W.makesIn K C=true)
  (hi:bA K (.ref C) "__init__" = some (some (.ref f))) (hf:PySem.W.typeIn K (.ref f)=some (.type "function"))
  (h:codeAny (model prog w) (A.under (.builtin "type.__call__" ⟨.ref C::vs,kw⟩)) (.call (.ref f) ⟨.ref (s.heap.objs.size+1)::vs,kw⟩) (PySem.W.InitBack (s.heap.objs.size+1) R)
   { s with heap:=(s.heap.push g0).push (jL C s.heap.objs.size) }) :
  codeAny (model prog w) A (.call (.ref C) ⟨vs,kw⟩) R s:=by
 obtain⟨hh,g,d,t,os⟩:=s;exact PySem.W.make_core (PySem.W.makes_of X hm) (PySem.W.looks_findIn X hi) (λself=>PySem.W.bind_fn X self hf) (.inl rfl) h
end
def ki (f:Str) (v:V):List (Str × V)->List (Str × V)
 | []=>[(f,v)]
 | (g,x)::r=>if g=f then(g,v)::r else(g,x)::ki f v r
theorem B0 (f g:Str) (v:V) :∀fs:List (Str × V),(ki f v fs).lookup g=if g=f then some v else fs.lookup g
 | []=>by
  show kO g [(f,v)]=_;by_cases h:g=f
  ·have hb:(g == f)=true:=beq_iff_eq.mpr h
   simp only[kO,hb,if_pos h]
  have hb:(g == f)=false:=beq_eq_false_iff_ne.mpr h;simp only[kO,hb,if_neg h]
 | (k,x)::r=>by
  have ih:=B0 f g v r;rw[show ki f v ((k,x)::r)=(if k=f then(k,v)::r else(k,x)::ki f v r) from rfl];by_cases hk:k=f
  ·rw[if_pos hk]
   by_cases h:g=k
   ·have hb:(g == k)=true:=beq_iff_eq.mpr h
    simp only[kO,hb,if_pos (h.trans hk)]
   have hb:(g == k)=false:=beq_eq_false_iff_ne.mpr h;simp only[kO,hb,if_neg (λe:g=f=>h (e.trans hk.symm))]
  rw[if_neg hk];by_cases h:g=k
  ·have hb:(g == k)=true:=beq_iff_eq.mpr h
   simp only[kO,hb,if_neg (λe:g=f=>hk (h.symm.trans e))]
  have hb:(g == k)=false:=beq_eq_false_iff_ne.mpr h;simp only[kO,hb];exact ih
theorem Bq (f:Str) (v:V) :∀fs:List (Str × V),f∈(ki f v fs).map (·.1)/\∀g,g∈fs.map (·.1)->g∈(ki f v fs).map (·.1)
 | []=>⟨by simp[ki],λg h=>by simp at h⟩
 | (k,x)::r=>by
  obtain⟨i1,i2⟩:=Bq f v r;rw[show ki f v ((k,x)::r)=(if k=f then(k,v)::r else(k,x)::ki f v r) from rfl];by_cases hk:k=f
  ·rw[if_pos hk]
   subst hk;exact⟨by simp,λg h=>by simpa using h⟩
  rw[if_neg hk];refine⟨?_,λg h=>?_⟩
  ·rw[cv]
   exact b7 _ i1
  rw[cv] at h ⊢;rcases bS.mp h with e | e
  ·exact bS.mpr (.inl e)
  exact b7 _ (i2 g e)
theorem GS (f:Str) (v:V) :∀fs:List (Str × V),(ki f v fs).length<=fs.length+1
 | []=>by simp[ki]
 | (k,x)::r=>by
  have ih:=GS f v r;rw[show ki f v ((k,x)::r)=(if k=f then(k,v)::r else(k,x)::ki f v r) from rfl];by_cases hk:k=f
  ·rw[if_pos hk,aV,aV];lia
  rw[if_neg hk,aV,aV];lia
def rT.some_of (r:rT (some v) o) :∃u,o=some u/\RelV v u:=by
 cases o with
 | none=>exact(show False from r).elim
 | some u=>exact⟨u,Z,r⟩
def rT.none_of (r:rT none o):o=none:=by
 cases o with
 | none=>rfl
 | some u=>exact(show False from r).elim
def Tt (r:RelV v u):PySem.W.handedIn u=true:=by
 cases v with
 | cj=>cases (show u=Value.none from r);rfl
 | bl b=>cases (show u=Value.bool b from r);rfl
 | int i=>obtain⟨t,e⟩:=(show∃t,u=Value.int i t from r);cases e;rfl
 | str x=>obtain⟨t,e⟩:=(show∃t,u=Value.str x t from r);cases e;rfl
 | vK b=>obtain⟨t,e⟩:=(show∃t,u=Value.bytes b t from r);cases e;rfl
 | S9 b=>obtain⟨t,e⟩:=(show∃t,u=Value.float b t from r);cases e;rfl
 | ref a=>cases (show u=Value.ref a from r);rfl
 | ty n=>cases (show u=Value.type n from r);rfl
section
variable {P:Program} {w:World} {H H':Hp} {h h':Heap} {a C dx:Addr} {fs oP:List (Str × V)}
def Kb (cM:jq P w H h) (e:H a=some (.ins C dx fs)) :∃mA,HJ h a dx C mA/\(∀f,rT (fs.lookup f) (mA f))/\PySem.Within mA (fs.map (·.1))/\fs.length<=1000/\H dx=some (.own a):=by
 obtain⟨d,z,ne,ob,mA,n,r,q⟩:=(show j6 P w H h a (.ins C dx fs) from cM a _ e)
 exact⟨mA,⟨ob,n,ne⟩,r,q,z,d⟩
end
structure zX (K:ak) (C:Addr):Prop where
 pg:uX K C Str.empty=true
 hd:zh K C=true
 po:PySem.W.plainOver K C=true
 sa:bA K (.ref C) "__setattr__" = some (some (.builtin "object.__setattr__"))
theorem zX.get {K:ak} {C:Addr} (c:zX K C) (f:Str):uX K C f=true:=c.pg
def eC (K:ak) (C:Addr) (f:Str):Prop:=bA K (.ref C) f=some none
def eC.aeE {K:ak} (n:eC K C f):BP K C f=some none:=by
 unfold BP;rw[show bA K (.ref C) f=some none from n];rfl
structure Meth (K:ak) (C:Addr) (m:Str) (f:Addr):Prop where
 at_:bA K (.ref C) m=some (some (.ref f))
 fn:Ga K (.ref f)=true
 kp:kz K (.ref f)=true
section
variable {X:Cx} {af:List (Addr × Obj)} {σ : St} {H:Hp} {s:Shared} {a C dx:Addr} {fs:List (Str × V)} {f:Str} {v:V} {A:Around} {E:Value->Shared->Prop}
def IS (I:Inv X af σ H s) (e:H a=some (.ins C dx fs)) (c:zX X.K C) (n:eC X.K C f) (l:fs.lookup f=some v)
  (h :∀u s',Inv X af σ H s'->RelV v u->Q u s'):wpAny (model X.prog X.w) A (getAttr (.ref a) f b) Q E s:=by
 obtain⟨mA,O,r,_,_,_⟩:=Kb I.cM e;obtain⟨u,hu,ru⟩:=rT.some_of (v:=v) (o:=mA f) (by rw[<- l];exact r f);exact get_map I.j9 O (c.get f) c.hd n hu (Tt ru) (h u _ (I.tok _) ru)
def Dr (I:Inv X af σ H s) (e:H a=some (.ins C dx fs)) (c:zX X.K C) (k:Meth X.K C m g) (l:fs.lookup m=none)
  (h:Q (.ref g,[.ref a]) s):wpAny (model X.prog X.w) A (getMethod (.ref a) m pl) Q E s:=by
 obtain⟨mA,O,r,_,_,_⟩:=Kb I.cM e;have hn:mA m=none:=rT.none_of (by rw[<- l];exact r m);exact VW I.j9 O (c.get m) k.at_ k.fn hn h
def IT (I:Inv X af σ H s) (e:H a=some (.ins C dx fs)) (c:zX X.K C) (n:eC X.K C f) (hl:fs.length < 1000) (ry:RelV y u)
  (h :∀s',Inv X af σ (aX H a (.ins C dx (ki f y fs))) s'->Q () s'):wpAny (model X.prog X.w) A (setAttr (.ref a) f u) Q E s:=by
 obtain⟨mA,O,r,wi,_,ho⟩:=Kb I.cM e;have hz:(fs.map (·.1)).length<=sizeLine:=by rw[ai,sizeLine_eq];lia
 refine Zr I.j9 O c.sa c.po n.aeE c.hd wi hz λh' O' sb=>h _ ?_;have hd :∃o,h'.get? dx=some o:=let⟨o,_,_,e',_⟩:=O'.ns;⟨o,e'⟩;refine I.write (x:=a) (e:=dx) (by rw[e];exact True.intro) (.inr ho) (λb q hb z=>(sb.2 b hb).trans z) hd ?_;refine⟨by rw[au O.ne];exact ho,?_,O.ne,O'.obj,_,O'.ns,λg=>?_,λg hg=>?_⟩
 ·have:=GS f y fs;lia
 ·show rT ((ki f y fs).lookup g) (if g=f then some u else mA g)
  rw[B0];by_cases q:g=f
  ·rw[if_pos q,if_pos q];exact ry
  rw[if_neg q,if_neg q];exact r g
 by_cases q:g=f
 ·rw[q];exact(Bq f y fs).1
 refine(Bq f y fs).2 g (wi g λz=>hg ?_);show(if g=f then some u else mA g)=none;rw[if_neg q];exact z
def Inv.made (I:Inv X af σ H s):Inv X af σ (aX (aX H s.heap.objs.size (.own (s.heap.objs.size+1))) (s.heap.objs.size+1) (.ins C s.heap.objs.size []))
  { s with heap:=(s.heap.push g0).push (jL C s.heap.objs.size) }:=by
 have e1:(s.heap.push g0).get? s.heap.objs.size=some g0:=dt s.heap rfl;have e2:((s.heap.push g0).push (jL C s.heap.objs.size)).get? (s.heap.objs.size+1)=some (jL C s.heap.objs.size):=by
  have:=dt (s.heap.push g0) (o:=jL C s.heap.objs.size) rfl
  rwa [gx] at this
 have e3:(s.heap.push g0).Ns s.heap.objs.size (λ_=>none):=⟨g0,#[],_,e1,Z,(λe he=>absurd he (by simp)),λ_=>rfl⟩
 have I1:=I.laid (a:=s.heap.objs.size) (o:=.own (s.heap.objs.size+1)) (h':=s.heap.push g0) (t':=s.toks) (λb u q=>bC _ q) (aN _) ⟨_,e1⟩;refine I1.laid (a:=s.heap.objs.size+1) (o:=.ins C s.heap.objs.size []) (t':=s.toks) (λb u q=>bC _ q) (Ba (gx _ _)) ?_;have ne:s.heap.objs.size≠s.heap.objs.size+1:=dR (jo _);refine⟨by rw[au ne,ah],bK _,ne,e2,λ_=>none,(Heap.Ns1.of_empty e3).at λo q=>bC _ q,λ_=>True.intro,λy hy=>absurd rfl hy⟩
theorem PN {w:World} (hb:attributeBase e f env (eval e env)=eval e env)
  (h:wpAny (model prog w) A (eval e env) (λo s₁=>wpAny (model prog w) A (getAttr o f true) Q E s₁) E s):wpAny (model prog w) A (eval (.Attribute e f pos) env) Q E s:=
 Attribute_any_ h (by rw[arm_eval_Attribute,hb])
end
inductive abK (K:ak) (f:Str) (Q:VK) (x:V) (H1:Hp):Prop where
 | mk a C dx fs v (_:x=.ref a) (_:H1 a=some (.ins C dx fs)) (_:zX K C) (_:eC K C f) (_:fs.lookup f=some v) (_:Q v H1)
def jf (K:ak) (ta:TE) (f:Str):TE:=λσ H Q=>ta σ H λx H1=>abK K f Q x H1
inductive abL (K:ak) (f:Str) (D:Ends) (σ : St) (y:V) (x:V) (H2:Hp):Prop where
 | mk a C dx fs (_:x=.ref a) (_:H2 a=some (.ins C dx fs)) (_:zX K C) (_:eC K C f) (_:fs.length < 1000) (_:D.nx σ (aX H2 a (.ins C dx (ki f y fs))))
def abM (K:ak) (ta tv:TE) (f:Str):TS:=λD σ H=>tv σ H λy H1=>ta σ H1 λx H2=>abL K f D σ y x H2
def VY (X:Cx) (op:Operator) (rd:V->V->Hp->VK->Prop):Prop:=
 ∀(af:List (Addr × Obj)) (s:Shared) (σ : St) (H:Hp) (x y:V) (u v:Value) (Q:VK),Inv X af σ H s->RelV x u->RelV y v->rd x y H Q->wpAny (model X.prog X.w) X.A (inplaceOp op u v) (EP X af σ Q) X.xe s
inductive Tu (K:ak) (tv:TE) (rd:V->V->Hp->VK->Prop) (f:Str) (D:Ends) (σ : St) (x:V) (H1:Hp):Prop where
 | mk a C dx fs v (_:x=.ref a) (_:H1 a=some (.ins C dx fs)) (_:zX K C) (_:eC K C f) (_:fs.lookup f=some v) (_:tv σ H1 λy H2=>rd v y H2 λz H3=>∃qH oP,H3 a=some (.ins C qH oP)/\oP.length < 1000/\D.nx σ (aX H3 a (.ins C qH (ki f z oP))))
def zI (K:ak) (ta tv:TE) (rd:V->V->Hp->VK->Prop) (f:Str):TS:=λD σ H=>ta σ H λx H1=>Tu K tv rd f D σ x H1
section
variable {X:Cx} {o e value:Expr} {f:Str} {pos jz agT:Pos} {ta tv:TE}
def abN (he:PE X e ta) (hb:attributeBase e f X.env (eval e X.env)=eval e X.env):PE X (.Attribute e f pos) (jf X.K ta f):=by
 intro af s σ H Q I h;refine PN hb (cX (he af s σ H _ I h) λu s1 ⟨x,H1,I1,rx,a,C,dx,fs,v,ex,ea,c,n,l,q⟩=>?_);subst ex;obtain rfl:u=Value.ref a:=rx;exact IS I1 ea c n l λu' s2 I2 ru=>⟨v,H1,I2,ru,q⟩
def abO (ha:PE X o ta) (hv:PE X value tv) (hs:swapsWith value (some (.Attribute o f jz)) pos.line X.env=pure false):PS X (.Assign [.Attribute o f jz] value pos) (abM X.K ta tv f):=by
 intro af s σ H D I h;refine plainObj_wpAny_Assign_Attribute (cX (hv af s σ H _ I h) λu s1 ⟨y,H1,I1,ry,q⟩=>cX (ha af s1 σ H1 _ I1 q) λov s2 ⟨x,H2,I2,rx,a,C,dx,fs,ex,ea,c,n,l,q2⟩=>?_) hs;subst ex;obtain rfl:ov=Value.ref a:=rx;exact IT I2 ea c n l ry λs3 I3=>⟨σ,_,I3,q2⟩
def KZ (ha:PE X o ta) (hv:PE X value tv) (hop:VY X op rd):PS X (.AugAssign (.Attribute o f agT) op value pos) (zI X.K ta tv rd f):=by
 intro af s σ H D I h;refine wpAny_AugAssign_AttributeAny (cX (ha af s σ H _ I h) λov s1 ⟨x,H1,I1,rx,a,C,dx,fs,v,ex,ea,c,n,l,q⟩=>?_);subst ex;obtain rfl:ov=Value.ref a:=rx;refine IS I1 ea c n l λu s2 I2 ru=>cX (hv af s2 σ H1 _ I2 q) λw3 s3 ⟨y,H2,I3,ry,q3⟩=>cX (hop af s3 σ H2 v y u w3 _ I3 ru ry q3) λw4 s4 ⟨z,H3,I4,rz,qH,oP,Tv,l',q4⟩=>?_;exact IT I4 Tv c n l' rz λs5 I5=>⟨σ,_,I5,q4⟩
inductive MX (x:V) (y:V) (H:Hp) (Q:VK):Prop where
 | mk i j (_:x=.int i) (_:y=.int j) (_:Q (.int (i+j)) H)
inductive abP (x:V) (y:V) (H:Hp) (Q:VK):Prop where
 | mk i j (_:x=.int i) (_:y=.int j) (_:Q (.int (i - j)) H)
def abQ:VY X .Add MX:=by
 rintro af s σ H x y u v Q I rx ry ⟨i,j,rfl,rfl,q⟩;obtain⟨t,rfl⟩:=(show∃t,u=Value.int i t from rx)
 obtain⟨t',rfl⟩:=(show∃t',v=Value.int j t' from ry)
 exact PyProof.Rows.iadd_int ⟨.int (i+j),H,I.tok _,⟨_,Z⟩,q⟩
def abR:VY X .Sub abP:=by
 rintro af s σ H x y u v Q I rx ry ⟨i,j,rfl,rfl,q⟩;obtain⟨t,rfl⟩:=(show∃t,u=Value.int i t from rx)
 obtain⟨t',rfl⟩:=(show∃t',v=Value.int j t' from ry)
 exact PyProof.Rows.isub_int ⟨.int (i - j),H,I.tok _,⟨_,Z⟩,q⟩
def aet (he:PE X e te) (I:Inv X af σ H s)
  (h:te σ H λx H1=>∃a C dx fs g,x=.ref a/\H1 a=some (.ins C dx fs)/\zX X.K C/\Meth X.K C m g/\fs.lookup m=none/\
   ∀s1,Inv X af σ H1 s1->wpAny (model X.prog X.w) X.A (callWith pos (.ref g) [.ref a] (backTo pos (starEach args X.env)) (backToKw pos (keywordEach [] X.env))) Q X.xe s1)
  (ht:eval (.Call (.Attribute e m apos) args [] pos) X.env=(do
   let ov <- eval e X.env
   standAt apos.atName
   let(f,first) <- holding [ov] (getMethod ov m pl)
   callWith pos f first (backTo pos (starEach args X.env)) (backToKw pos (keywordEach [] X.env)))) :
  wpAny (model X.prog X.w) X.A (eval (.Call (.Attribute e m apos) args [] pos) X.env) Q X.xe s:=by
 refine vC (pl:=pl) (cX (he af s σ H _ I h) λu s1 ⟨x,H1,I1,rx,a,C,dx,fs,g,ex,ea,c,k,l,q⟩=>?_) ht;subst ex;obtain rfl:u=Value.ref a:=rx;exact Dr I1 ea c k l (q s1 I1)
end
structure fL (k:Nat) (A:Around):Prop where
 hd:A.handled=none
 dp:A.depth+3 * k+5 < recursionLimit
 un:A.units+16 * k+200 < cLine
theorem fL.mono (r:fL k A) (h:j<=k):fL j A:=⟨r.hd,by have:=r.dp;lia,by have:=r.un;lia⟩
theorem fL.deeper (r:fL (k+1) A) (env:Env):fL k (A.deeper env):=
 ⟨r.hd,by have:=r.dp;show A.depth+1+3 * k+5 < _;lia,by have:=r.un;show A.units+3+16 * k+200 < _;lia⟩
def RL {A:Around} {C:Addr} {us:List Value} {kw:List (Str × Value)}:(A.under (.builtin "type.__call__" ⟨.ref C::us,kw⟩)).depth=A.depth+1:=by
 first | rfl | simp[Around.under,Code.weight,Code.isCreation,Code.isGuard,Code.isCaller,Code.frames,Code.isFrame,guardIds]
def RM {A:Around} {C:Addr} {us:List Value} {kw:List (Str × Value)}:(A.under (.builtin "type.__call__" ⟨.ref C::us,kw⟩)).units=A.units+1:=by
 first | rfl | simp[Around.under,Code.cUnits,Code.frames,Code.isFrame]
theorem fL.make (r:fL (k+1) A) (C:Addr) (us:List Value) (kw:List (Str × Value)):fL k (A.under (.builtin "type.__call__" ⟨.ref C::us,kw⟩)):=
 ⟨r.hd,by have:=r.dp;rw[RL];lia,by have:=r.un;rw[RM];lia⟩
theorem fL.depth (r:fL k A):A.depth < recursionLimit:=by have:=r.dp;lia
theorem fL.units (r:fL k A):A.units+64 < cLine:=by have:=r.un;lia
def lO:TA:=λ_ H Q=>Q [] H
def eM (ta:TE) (tr:TA):TA:=λσ H Q=>ta σ H λx H1=>tr σ H1 λxs H2=>Q (x::xs) H2
section
variable {X:Cx} {e:Expr} {es:List Expr} {te:TE} {t:TA} {pos:Pos}
theorem abS:PA X [] lO:=λ_ _ _ _ H Q I h=>Calls.spliced_nil ⟨[],H,I,.nil,h⟩
def Zs (ha:PE X e te) (hr:PA X es t) (hs:starEach (e::es) X.env=(false,eval e X.env)::starEach es X.env:=by rfl):PA X (e::es) (eM te t):=by
 intro pos af s σ H Q I h;rw[hs];show wpAny _ _ (spliced ((false,eval e X.env)::backTo pos (starEach es X.env))) _ _ s;refine Calls.spliced_cons (cX (ha af s σ H _ I h) λu s1 ⟨x,H1,I1,r1,q1⟩=>?_);exact cX (hr pos af s1 σ H1 _ I1 q1) λus s2 ⟨xs,H2,I2,r2,q2⟩=>⟨x::xs,H2,I2,.cons r1 r2,q2⟩
def RN (t:TA):TE:=λσ H Q=>t σ H λxs H1=>xs.length<=sizeLine/\∀p,H1 p=none->Q (.ref p) (aX H1 p (.tup xs))
def VZ (t:TA):TE:=λσ H Q=>t σ H λxs H1=>xs.length<=sizeLine/\∀p,H1 p=none->Q (.ref p) (aX H1 p (.lst xs))
def abT {x1} (h:PA X es t):PE X (.Tuple es x1 pos) (RN t):=by
 intro af s σ H Q I hq;refine wpAny_Tuple_spliced (cX (h pos af s σ H _ I hq) λus s1 ⟨xs,H1,I1,r,z,q⟩=>⟨by rw[<- r.length];exact z,?_⟩);have hf:H1 s1.heap.objs.size=none:=I1.cM.fresh (aN _);refine⟨.ref s1.heap.objs.size,aX H1 s1.heap.objs.size (.tup xs),I1.laid (t':=s1.toks) (λb u e=>bC _ e) (aN _) ?_,Z,q _ hf⟩;exact⟨z,us,r,⟨_,dt _ rfl,Z,_,Z⟩⟩
def abU (h:PA X es t):PE X (.List es pos) (VZ t):=by
 intro af s σ H Q I hq;refine wpAny_List_spliced (cX (h pos af s σ H _ I hq) λus s1 ⟨xs,H1,I1,r,z,q⟩=>⟨by rw[<- r.length];exact z,?_⟩);have hf:H1 s1.heap.objs.size=none:=I1.cM.fresh (aN _);refine⟨.ref s1.heap.objs.size,aX H1 s1.heap.objs.size (.lst xs),I1.laid (t':=s1.toks) (λb u e=>bC _ e) (aN _) ?_,Z,q _ hf⟩;exact⟨z,us,0,r,dt _ rfl⟩
end
abbrev Sp:=List V->Hp->VK->XK->Prop
abbrev zY:=List Env->Hp->Shared->XK->Value->Shared->Prop
structure HK (P:Program) (w:World) (K:ak) (mg:Str->Option Value) (aS:Heap) (A:Around) (outer:List Env) (s:Shared) (H:Hp):Prop where
 frames:A.frames=some outer
 mod:Mod K mg aS
 bs :∀b o,aS.get? b=some o->s.heap.get? b=some o/\H b=none
 GQ:aS.objs.size<=s.heap.objs.size
 yA:s.heap.FunFrames aS outer
 MN :∀b∈rV outer,H b=none
 cM:jq P w H s.heap
 bare:AllBare s.gens
def CE (outer:List Env) (P:Program) (w:World) (H:Hp) (s:Shared) (Q:VK) (u:Value) (s':Shared):Prop:=
 ∃v H',s'.os=s.os/\AllBare s'.gens/\Un (rV outer) [] H H' s.heap s'.heap/\jq P w H' s'.heap/\RelV v u/\Q v H'
def CR (CX:zY) (outer:List Env) (P:Program) (w:World) (H:Hp) (s:Shared) (Q:VK) (E:XK) (r:Result) (s':Shared):Prop:=
 match r with
 | .ok (.ret u)=>CE outer P w H s Q u s'
 | .ok _=>False
 | .error e=>CX outer H s E e s'
structure gH (P:Program) (w:World) (K:ak) (mg:Str->Option Value) (aS:Heap) (CX:zY) (k:Nat) (f:Addr) (fd:FuncData) (ps:List Str) (sp:Sp):Prop where
 len :∀vs H Q E,sp vs H Q E->vs.length=ps.length
 run :∀(A:Around) (outer:List Env) (s:Shared) (H:Hp) (args:Args) (us:List Value) (vs:List V) (Q:VK) (E:XK),fL k A->HK P w K mg aS A outer s H->BindsTo s fd args (ps.zip us)->Vals vs us->sp vs H Q E->
  codeAny (model P w) A (.call (.ref f) args) (CR CX outer P w H s Q E) s
theorem gH.mono {P:Program} {w:World} {K:ak} {mg:Str->Option Value} {aS:Heap} (F:gH P w K mg aS CX j f fd ps sp) (h:j<=k) :
  gH P w K mg aS CX k f fd ps sp:=⟨F.len,λA outer s H args us vs Q E hr=>F.run A outer s H args us vs Q E (hr.mono h)⟩
theorem HK.make {P:Program} {w:World} {K:ak} {mg:Str->Option Value} {aS:Heap} (e:HK P w K mg aS A outer s H) (C:Addr) (us:List Value) (kw:List (Str × Value)) :
  HK P w K mg aS (A.under (.builtin "type.__call__" ⟨.ref C::us,kw⟩)) outer s H:=⟨by first | exact e.frames | (simpa [Around.under,Code.envs,Code.isFrame,pushEnvs] using e.frames),e.mod,e.bs,e.GQ,e.yA,e.MN,e.cM,e.bare⟩
section
variable {X:Cx} {af:List (Addr × Obj)} {σ : St} {H:Hp} {s s':Shared}
theorem Inv.RO (I:Inv X af σ H s):HK X.prog X.w X.K X.mg X.aS X.A X.stack s H:=
 ⟨I.ok.frames,I.ok.mod,I.bs,c8 I.ok.GQ I.sz,I.stack,I.zH,I.cM,I.bare⟩
def Inv.after (I:Inv X af σ H s) (h:CE X.stack X.prog X.w H s Q u s'):EP X af σ Q u s':=by
 obtain⟨v,H',os,bare,un,cM,r,q⟩:=h;obtain⟨hh,g,d,t,K4⟩:=s';obtain rfl:K4=s.os:=os;exact⟨v,H',I.call (h':=hh) (g':=g) (d':=d) (t':=t) (ch:=[]) un cM bare (λb z=>absurd z (by simp)),r,q⟩
end
def RP (sp:Sp) (qI:List V) (E:XK) (t:TA):TE:=λσ H Q=>t σ H λvs H1=>sp (vs++qI) H1 Q E
inductive Zt (C:Addr) (m:Str) (sp:Sp) (qI:List V) (E:XK) (t:TA) (σ : St) (Q:VK) (x:V) (H1:Hp):Prop where
 | mk a dx fs (_:x=.ref a) (_:H1 a=some (.ins C dx fs)) (_:fs.lookup m=none) (_:t σ H1 λvs H2=>sp (x::(vs++qI)) H2 Q E)
def Mu (C:Addr) (m:Str) (sp:Sp) (qI:List V) (E:XK) (ta:TE) (t:TA):TE:=λσ H Q=>ta σ H λx H1=>Zt C m sp qI E t σ Q x H1
def Mv (C:Addr) (sp:Sp) (qI:List V) (E:XK) (t:TA):TE:=λσ H Q=>t σ H λvs H1=>∀x dx,H1 x=none->H1 dx=none->dx≠x->
 sp (.ref x::(vs++qI)) (aX (aX H1 dx (.own x)) x (.ins C dx [])) (λv H2=>v=.cj/\Q (.ref x) H2) E
def Binds (K:ak) (fd:FuncData) (ps:List Str) (ds:List Value):Prop:=
 ∀(s:Shared) (us:List Value),K.In s.heap->(us++ds).length=ps.length->BindsTo s fd ⟨us,[]⟩ (ps.zip (us++ds))
theorem Binds.all {K:ak} {fd:FuncData} {ps:List Str} (h :∀us:List Value,us.length=ps.length->bindArgs fd ⟨us,[]⟩=pure (ps.zip us)):Binds K fd ps []:=λs us _ hl=>by
 rw[b5] at hl ⊢;exact .of_eq (h us hl)
def Passes (CX:zY) (X:Cx) (E:XK):Prop:=∀(af:List (Addr × Obj)) (σ : St) (H:Hp) (s:Shared) (e:Value) (s':Shared),Inv X af σ H s->CX X.stack H s E e s'->X.xe e s'
section
variable {X:Cx} {CX:zY} {k:Nat} {f C:Addr} {fd:FuncData} {ps:List Str} {sp:Sp} {qI:List V} {ds:List Value} {E:XK} {x m:Str} {p pos apos:Pos} {e o:Expr} {es:List Expr} {ta:TE} {t:TA}
def MY (F:gH X.prog X.w X.K X.mg X.aS CX k f fd ps sp) (hr:fL k X.A) (hb:Binds X.K fd ps ds) (hd:Vals qI ds) (hx:Passes CX X E)
  (I:Inv X af σ H s) (r:Vals vs us) (h:sp (vs++qI) H Q E):wpAny (model X.prog X.w) X.A (call (.ref f) us) (EP X af σ Q) X.xe s:=by
 have r2:Vals (vs++qI) (us++ds):=r.append hd;have hl:(us++ds).length=ps.length:=by rw[<- r2.length];exact F.len _ _ _ _ h
 refine wpAny_call (codeAny_mono (F.run X.A X.stack s H ⟨us,[]⟩ (us++ds) (vs++qI) Q E hr I.RO (hb s us I.j9 hl) r2 h) λr s' hq=>?_);cases r with
 | error e=>exact hx af σ H s e s' I hq
 | ok fl=>
  cases fl with
  | ret u=>exact I.after hq
  | next=>exact False.elim hq
  | brk=>exact False.elim hq
  | cont=>exact False.elim hq
def Zu (F:gH X.prog X.w X.K X.mg X.aS CX k f fd ps sp) (hr:fL k X.A) (hg:Gl X x) (hm:X.mg x=some (.ref f)) (hk:kz X.K (.ref f)=true) (hb:Binds X.K fd ps ds) (hd:Vals qI ds) (hx:Passes CX X E)
  (ha:PA X (e::es) t) (o9:(x == ("__debug__" : Str))=false:=by decide) (he:starEach (e::es) X.env=(false,eval e X.env)::starEach es X.env:=by rfl) (iT:(backTo pos (starEach es X.env)).any (·.1)=false:=by rfl) :
  PE X (.Call (.Name x p) (e::es) [] pos) (RP sp qI E t):=by
 intro af s σ H Q I h;refine wpAny_Call_Name_kw (mZ I hg hm ?_ o9);refine k9 (h₀:=X.aS) I.ok.mod.KU hk (cX (ha pos af s σ H _ I h) λus s1 ⟨vs,H1,I1,r,q⟩=>⟨I1.j9,?_⟩) he iT;exact MY F hr hb hd hx I1 r q
def Zv (he:PE X o ta) (c:zX X.K C) (hm:Meth X.K C m f) (F:gH X.prog X.w X.K X.mg X.aS CX k f fd ps sp) (hr:fL k X.A) (hb:Binds X.K fd ps ds) (hd:Vals qI ds) (hx:Passes CX X E) (ha:PA X (e::es) t)
  (fk:starEach (e::es) X.env=(false,eval e X.env)::starEach es X.env:=by rfl) (iT:(backTo pos (starEach es X.env)).any (·.1)=false:=by rfl)
  (ht:eval (.Call (.Attribute o m apos) (e::es) [] pos) X.env=(do
   let ov <- eval o X.env
   standAt apos.atName
   let(f,first) <- holding [ov] (getMethod ov m pl)
   callWith pos f first (backTo pos (starEach (e::es) X.env)) (backToKw pos (keywordEach [] X.env))):=by rfl) :
  PE X (.Call (.Attribute o m apos) (e::es) [] pos) (Mu C m sp qI E ta t):=by
 intro af s σ H Q I h;refine vC (pl:=pl) (cX (he af s σ H _ I h) λu s1 ⟨x,H1,I1,rx,a,dx,fs,ex,ea,l,q⟩=>?_) ht;subst ex;obtain rfl:u=Value.ref a:=rx;refine Dr I1 ea c hm l ?_;refine k9 (first:=[.ref a]) (h₀:=X.aS) I.ok.mod.KU hm.kp (cX (ha pos af s1 σ H1 _ I1 q) λus s2 ⟨vs,H2,I2,r,q2⟩=>⟨I2.j9,?_⟩) fk iT;exact MY (us:=.ref a::us) (vs:=.ref a::vs) F hr hb hd hx I2 (.cons rfl r) q2
def V0 (he:PE X o ta) (c:zX X.K C) (hm:Meth X.K C m f) (F:gH X.prog X.w X.K X.mg X.aS CX k f fd ps sp) (hr:fL k X.A) (hb:Binds X.K fd ps ds) (hd:Vals qI ds) (hx:Passes CX X E)
  (ht:eval (.Call (.Attribute o m apos) [] [] pos) X.env=(do
   let ov <- eval o X.env
   standAt apos.atName
   let(f,first) <- holding [ov] (getMethod ov m pl)
   callWith pos f first (backTo pos (starEach [] X.env)) (backToKw pos (keywordEach [] X.env))):=by rfl) :
  PE X (.Call (.Attribute o m apos) [] [] pos) (Mu C m sp qI E ta lO):=by
 intro af s σ H Q I h;refine vC (pl:=pl) (cX (he af s σ H _ I h) λu s1 ⟨x,H1,I1,rx,a,dx,fs,ex,ea,l,q⟩=>?_) ht;subst ex;obtain rfl:u=Value.ref a:=rx;refine Dr I1 ea c hm l ?_;exact PySem.W.callWith_K0 (first:=[.ref a]) I1.j9 hm.kp (MY (us:=[.ref a]) (vs:=[.ref a]) F hr hb hd hx I1 (.cons rfl .nil) q)
structure Mk (K:ak) (C f:Addr):Prop where
 makes:PySem.W.makesIn K C=true
 init:bA K (.ref C) "__init__" = some (some (.ref f))
 fn:Ga K (.ref f)=true
 kp:kz K (.ref C)=true
def MZ (M:Mk X.K C f) (F:gH X.prog X.w X.K X.mg X.aS CX k f fd ps sp) (hr:fL (k+1) X.A) (hb:Binds X.K fd ps ds) (hd:Vals qI ds)
  (hx:Passes CX X E) (I:Inv X af σ H s) (r:Vals vs us)
  (h :∀x dx,H x=none->H dx=none->dx≠x->sp (.ref x::(vs++qI)) (aX (aX H dx (.own x)) x (.ins C dx [])) (λv H2=>v=.cj/\Q (.ref x) H2) E) :
  wpAny (model X.prog X.w) X.A (call (.ref C) us) (EP X af σ Q) X.xe s:=by
 have hq:=h (s.heap.objs.size+1) s.heap.objs.size (I.cM.fresh (Nat.le_succ _)) (I.cM.fresh (aN _)) (dR (jo _));have I2:=Inv.made (C:=C) I;have r2:Vals (V.ref (s.heap.objs.size+1)::(vs++qI)) (Value.ref (s.heap.objs.size+1)::(us++ds)):=.cons rfl (r.append hd);have hl:(Value.ref (s.heap.objs.size+1)::us++ds).length=ps.length:=by
  have e:=r2.length;rw[F.len _ _ _ _ hq] at e;exact e.symm
 refine wpAny_call (VX (f:=f) I.j9 M.makes M.init (beq_iff_eq.mp M.fn) (codeAny_mono (F.run _ X.stack _ _ ⟨Value.ref (s.heap.objs.size+1)::us,[]⟩ (Value.ref (s.heap.objs.size+1)::(us++ds)) _ _ E (hr.make C us [])
  (I2.RO.make C us []) (hb _ (Value.ref (s.heap.objs.size+1)::us) I2.j9 hl) r2 hq) λr s' nM=>?_))
 cases r with
 | error e=>exact hx af σ _ _ e s' I2 nM
 | ok fl=>
  cases fl with
  | ret u=>
   obtain⟨v,H',I3,rv,ev,q3⟩:=I2.after nM;subst ev;exact⟨rv,⟨V.ref (s.heap.objs.size+1),H',I3,Z,q3⟩⟩
  | next=>exact False.elim nM
  | brk=>exact False.elim nM
  | cont=>exact False.elim nM
def Zw (M:Mk X.K C f) (F:gH X.prog X.w X.K X.mg X.aS CX k f fd ps sp) (hr:fL (k+1) X.A) (hg:Gl X x) (hm:X.mg x=some (.ref C)) (hb:Binds X.K fd ps ds) (hd:Vals qI ds) (hx:Passes CX X E)
  (ha:PA X (e::es) t) (o9:(x == ("__debug__" : Str))=false:=by decide) (he:starEach (e::es) X.env=(false,eval e X.env)::starEach es X.env:=by rfl) (iT:(backTo pos (starEach es X.env)).any (·.1)=false:=by rfl) :
  PE X (.Call (.Name x p) (e::es) [] pos) (Mv C sp qI E t):=by
 intro af s σ H Q I h;refine wpAny_Call_Name_kw (mZ I hg hm ?_ o9);refine k9 (h₀:=X.aS) I.ok.mod.KU M.kp (cX (ha pos af s σ H _ I h) λus s1 ⟨vs,H1,I1,r,q⟩=>⟨I1.j9,?_⟩) he iT;exact MZ M F hr hb hd hx I1 r q
def V1 (M:Mk X.K C f) (F:gH X.prog X.w X.K X.mg X.aS CX k f fd ps sp) (hr:fL (k+1) X.A) (hg:Gl X x) (hm:X.mg x=some (.ref C)) (hb:Binds X.K fd ps ds) (hd:Vals qI ds) (hx:Passes CX X E)
  (o9:(x == ("__debug__" : Str))=false:=by decide):PE X (.Call (.Name x p) [] [] pos) (Mv C sp qI E lO):=by
 intro af s σ H Q I h;refine wpAny_Call_Name_kw (mZ I hg hm ?_ o9);exact PySem.W.callWith_K0 I.j9 M.kp (MZ (us:=[]) M F hr hb hd hx I .nil h)
end
structure aH (N P:List Str) (sc:Scope):Prop where
 kind:sc.kind=.function
 co:sc.isCoroutine=false
 gen:sc.isGenerator=false
 nd:N.Nodup
 pre:N.take P.length=P
 par :∀x∈P,sc.names.lookup x=some .local\/sc.names.lookup x=some .cell
 abV :∀y∈sc.names,y.2≠.free
theorem K5 {kindOf:Str->Option NameKind} {x:Str} :∀{binds:List (Str × Value)} {m:Str->Option Value},(∀v,(x,v)∉binds)->bindL kindOf binds m x=m x
 | [],_,_=>rfl
 | (n,v)::r,m,h=>by
  unfold bindL;rw[K5 λw hw=>h w (b7 _ hw)];split
  ·have:x≠n:=by rintro rfl;exact h v dH
   simp[this]
  rfl
theorem K6 {kindOf:Str->Option NameKind} {x:Str} :∀{binds:List (Str × Value)} {m:Str->Option Value},(∀v,(x,v)∉binds)->bindC kindOf binds m x=m x
 | [],_,_=>rfl
 | (n,v)::r,m,h=>by
  unfold bindC;rw[K6 λw hw=>h w (b7 _ hw)];split
  ·rfl
  have:x≠n:=by rintro rfl;exact h v dH
  simp[this]
theorem K7 {kindOf:Str->Option NameKind} {x:Str} {v:Value} :∀{P:List Str} {vs:List Value} {i:Nat} {m:Str->Option Value},P.Nodup->P[i]?=some x->vs[i]?=some v->kindOf x=some .local->
  bindL kindOf (P.zip vs) m x=some v
 | [],_,_,_,_,h,_,_=>by simp at h
 | _::_,[],_,_,_,_,h,_=>by simp at h
 | p::P,w::vs,0,m,nd,h1,h2,hk=>by
  simp at h1 h2;subst h1;subst h2;show bindL kindOf ((p,w)::P.zip vs) m p=_;unfold bindL;rw[K5 λv hv=>(lF.mp nd).1 (BQ hv).1,if_pos hk];simp
 | p::P,w::vs,i+1,m,nd,h1,h2,hk=>by
  show bindL kindOf ((p,w)::P.zip vs) m x=_;unfold bindL;exact K7 (i:=i) (lF.mp nd).2 (by simpa using h1) (by simpa using h2) hk
theorem K8 {kindOf:Str->Option NameKind} {x:Str} {v:Value} :∀{P:List Str} {vs:List Value} {i:Nat} {m:Str->Option Value},P.Nodup->P[i]?=some x->vs[i]?=some v->kindOf x≠some .local->
  bindC kindOf (P.zip vs) m x=some v
 | [],_,_,_,_,h,_,_=>by simp at h
 | _::_,[],_,_,_,_,h,_=>by simp at h
 | p::P,w::vs,0,m,nd,h1,h2,hk=>by
  simp at h1 h2;subst h1;subst h2;show bindC kindOf ((p,w)::P.zip vs) m p=_;unfold bindC;rw[K6 λv hv=>(lF.mp nd).1 (BQ hv).1,if_neg hk];simp
 | p::P,w::vs,i+1,m,nd,h1,h2,hk=>by
  show bindC kindOf ((p,w)::P.zip vs) m x=_;unfold bindC;exact K8 (i:=i) (lF.mp nd).2 (by simpa using h1) (by simpa using h2) hk
def start (N:List Str) (vs:List V):St:=vs.map some++List.replicate (N.length - vs.length) none
def rX (CX:zY) (P:Program) (w:World) (K:ak) (mg:Str->Option Value) (aS:Heap) (N:List Str) (qual:Str) (scope:Scope) (f:Addr) (cd:Value) (A:Around) (outer:List Env) (s:Shared) (H:Hp) (E:XK):Cx where
 prog:=P
 w:=w
 K:=K
 mg:=mg
 aS:=aS
 A:=A.deeper (envOfC qual scope s.heap.objs.size f cd)
 N:=N
 mH:=s
 Py:=H
 env:=envOfC qual scope s.heap.objs.size f cd
 outer:=outer
 stack:=envOfC qual scope s.heap.objs.size f cd::outer
 ex:=[]
 calm:=true
 fn:=λ_=>true
 pn:=[]
 xe:=λe s'=>wpAny (model P w) (A.deeper (envOfC qual scope s.heap.objs.size f cd)) (leaving (envOfC qual scope s.heap.objs.size f cd) e) (λ_ s''=>CX outer H s E e s'') (λe' s''=>CX outer H s E e' s'') s'
def M0 {sc:Scope} {n:Nat} {x:Str} (h:sc.names.lookup x=some .cell) :∃c,(cellsFrom n sc.names []).lookup x=some c:=by
 have q:=PySem.W.cellsFrom_some sc.names n [] (.inl h);exact iA.mp q
def Tw {CX:zY} {P:Program} {w:World} {K:ak} {mg:Str->Option Value} {aS:Heap} {N ps:List Str} {qual:Str} {scope:Scope} {f:Addr} {cd:Value} {A:Around} {outer:List Env} {s s1:Shared} {H:Hp} {E:XK} {us:List Value} {vs:List V}
  (S:aH N ps scope) (hd:A.handled=none) (e0:HK P w K mg aS A outer s H) (hl:vs.length=ps.length) (r:Vals vs us)
  (x:InCallC s s.heap.objs.size (bindL (envOfC qual scope s.heap.objs.size f cd).kindOf (ps.zip us) λ_=>none) (cellsFrom (s.heap.objs.size+1) scope.names []) (bindC (envOfC qual scope s.heap.objs.size f cd).kindOf (ps.zip us) λ_=>none) s1) :
  Inv (rX CX P w K mg aS N qual scope f cd A outer s H E) [] (start N vs) H s1:=by
 have iT:ps.length<=N.length:=by have:=congrArg dA S.pre;rw[bJ] at this;lia
 obtain⟨h1,tk,rfl,hk⟩:=x.done;have PQ :∀b:Addr,b∉(rX CX P w K mg aS N qual scope f cd A outer s H E).ex:=λb z=>absurd (show b∈([]:List Addr) from z) (by simp);refine⟨⟨e0.mod,S.kind,Z,Z,aN _,λy z c h1 h2=>?_,λy hy=>?_,λy c _ h=>?_,λ_=>hd,Around.frames_deeper e0.frames,.inr ⟨Z,Z⟩,λb z=>absurd z (PQ b),e0.bs,e0.GQ,λb _ _=>PQ b,λb z=>absurd z (PQ b),e0.yA,e0.MN⟩,
  rfl,e0.bare,Un.kept hk,⟨_,x.toInCall.ns,λi y v h1 h2 h3=>?_⟩,λy c h=>⟨_,x.cell y c h⟩,e0.cM.fresh (aN _),λy c h=>?_,λp hp=>absurd (show p∈([]:List (Addr × Obj)) from hp) (by simp),e0.cM.kept hk,?_⟩
 ·exact name_of_addr x.apart (PySem.mem_of_lookup h1) (PySem.mem_of_lookup h2)
 ·have hy:scope.names.lookup y=some .cell\/scope.names.lookup y=some .free:=hy
  rcases hy with hy | hy
  ·exact M0 hy
  exact absurd rfl (S.abV _ (PySem.mem_of_lookup hy))
 ·exact wO (x.above y c (PySem.mem_of_lookup h))
 ·have hi:i < vs.length:=by
   unfold start at h2;by_cases hi:i < vs.length
   ·exact hi
   rw[qS (by simpa using hi)] at h2;rw[List.getElem?_replicate] at h2;split at h2 <;> cases h2
  have ha:vs[i]?=some v:=by
   unfold start at h2;rw[rN (by simpa using hi),aA] at h2;cases e:vs[i]? with
   | none=>rw[e] at h2;cases h2
   | some a=>rw[e] at h2;cases h2;rfl
  obtain⟨u,hu,rv⟩:=r.get ha;have hp:ps[i]?=some y:=by
   rw[<- S.pre,List.getElem?_take_of_lt (by lia)];exact h1
  have ndP:ps.Nodup:=by rw[<- S.pre];exact S.nd.sublist (List.take_sublist _ _)
  refine⟨u,rv,?_⟩;rcases S.par y (aP hp) with k | k
  ·exact .inl ⟨k,K7 ndP hp hu k⟩
  obtain⟨c,e⟩:=M0 (n:=s.heap.objs.size+1) k;refine .inr ⟨.inl k,c,e,?_⟩;have q:=x.cell y c e;rw[K8 ndP hp hu (by show scope.names.lookup y≠_;rw[k];decide)] at q;exact q
 ·exact e0.cM.fresh (wO (x.above y c (PySem.mem_of_lookup h)))
 unfold start;show _=N.length;rw[ay,ai,List.length_replicate]
 lia
def Ya {CX:zY} {P:Program} {w:World} {K:ak} {mg:Str->Option Value} {aS:Heap} {k:Nat} {f:Addr} {name qual:Str} {params:Arguments} {body:List Stmt} {scope:Scope} {dV kV doc pm bx ct oc:Value} {an od:Option Addr}
  {tL:Array (Option Value)} {N ps:List Str} {sp:Sp} (lk:K.lookup f=some ⟨oc,od,.func (sO name qual params body scope dV kV doc pm an bx ct),tL⟩) (rF:C4 K bx qual=true) (S:aH N ps scope)
  (len :∀vs H Q E,sp vs H Q E->vs.length=ps.length)
  (zp :∀(A:Around) (outer:List Env) (s:Shared) (H:Hp) (vs:List V) (Q:VK) (E:XK),fL k (A.deeper (envOfC qual scope s.heap.objs.size f bx))->sp vs H Q E->
   ∃t,vM (rX CX P w K mg aS N qual scope f bx A outer s H E) body t/\t { nx:=λ_ H'=>Q .cj H',rt:=Q } (start N vs) H) :
  gH P w K mg aS CX (k+1) f (sO name qual params body scope dV kV doc pm an bx ct) ps sp:=by
 refine⟨len,λA outer s H args us vs Q E hr e0 hb r Br=>?_⟩;have hl:=len _ _ _ _ Br;have KX:K.In s.heap:=e0.mod.KU.keeps λb o e=>(e0.bs b o e).1;have lim:s.heap.NoLimit:=e0.mod.nolimit.keeps λb o e=>(e0.bs b o e).1;have aeF :∀y∈ps.zip us,scope.names.lookup y.1=some .local\/(scope.names.lookup y.1=some .cell/\((cellsFrom (s.heap.objs.size+1) scope.names []).lookup y.1).isSome=true):=λ⟨n,v⟩ hy=>by
  rcases S.par n (BQ hy).1 with q | q
  ·exact .inl q
  exact .inr ⟨q,PySem.W.cellsFrom_some _ _ _ (.inl q)⟩
 refine codeAny_call_function hr.depth (KX _ _ lk) rfl S.co S.gen rfl (PySem.W.codeRec_of KX rF) (hb _ _ _ _ ?_);refine wpAny_newFunctionEnv_cells S.kind aeF λenv he s1 x=>?_;subst he;refine⟨lim.keeps x.toInCall.keep,codeAny_func ?_⟩;obtain⟨t,ht,hq⟩:=zp A outer s H vs Q E (hr.deeper _) Br;have I:Inv (rX CX P w K mg aS N qual scope f bx A outer s H E) [] (start N vs) H s1:=Tw S hr.hd e0 hl r x;refine wpAny_mono (ht [] s1 (start N vs) H _ I hq) (λfl s' hs=>?_) λe s' hs=>hs;have di :∀{σ':St} {H':Hp} {v:V} {u:Value},Inv (rX CX P w K mg aS N qual scope f bx A outer s H E) [] σ' H' s'->RelV v u->Q v H'->CE outer P w H s Q u s':=
  λ{σ' H' v u} J rv q=>⟨v,H',J.os,J.bare,J.aS,J.cM,rv,q⟩
 cases fl with
 | ret u=>
  obtain⟨v,σ',H',J,rv,q⟩:=hs;exact di J rv q
 | next=>
  obtain⟨σ',H',J,q⟩:=hs;exact di (v:=V.cj) (u:=Value.none) J rfl q
 | brk=>
  obtain⟨_,_,_,q⟩:=hs;exact False.elim q
 | cont=>
  obtain⟨_,_,_,q⟩:=hs;exact False.elim q
section
variable {X:Cx} {x:Str} {p pos:Pos} {e:Expr} {es:List Expr} {t:TA} {id T:String} {r:List V->Hp->VK->Prop}
def Yb (r:List V->Hp->VK->Prop) (t:TA):TE:=λσ H Q=>t σ H λvs H1=>r vs H1 Q
def V2 (hc:qm X (.builtin id) r) (hg:Gl X x) (hm:X.mg x=none) (hv:bootBuiltins x=some (.builtin id)) (ha:PA X (e::es) t) (hn:x≠"__name__":=by decide) (o9:(x == ("__debug__" : Str))=false:=by decide)
  (he:starEach (e::es) X.env=(false,eval e X.env)::starEach es X.env:=by rfl) (iT:(backTo pos (starEach es X.env)).any (·.1)=false:=by rfl):PE X (.Call (.Name x p) (e::es) [] pos) (Yb r t):=by
 intro af s σ H Q I h;refine wpAny_Call_Name_kw (IM I hg hm hv ?_ hn o9);exact PyProof.Rows.callWith_builtin1 (cX (ha pos af s σ H _ I h) λus s1 ⟨vs,H1,I1,r1,q1⟩=>hc af s1 σ H1 vs us Q I1 r1 q1) he iT
def Tx (hc:qm X (.type T) r) (hg:Gl X x) (hm:X.mg x=none) (hv:bootBuiltins x=some (.type T)) (ha:PA X (e::es) t) (hn:x≠"__name__":=by decide) (o9:(x == ("__debug__" : Str))=false:=by decide)
  (he:starEach (e::es) X.env=(false,eval e X.env)::starEach es X.env:=by rfl) (iT:(backTo pos (starEach es X.env)).any (·.1)=false:=by rfl):PE X (.Call (.Name x p) (e::es) [] pos) (Yb r t):=by
 intro af s σ H Q I h;refine wpAny_Call_Name_kw (IM I hg hm hv ?_ hn o9);exact PyProof.Rows.callWith_type1 (cX (ha pos af s σ H _ I h) λus s1 ⟨vs,H1,I1,r1,q1⟩=>hc af s1 σ H1 vs us Q I1 r1 q1) he iT
end
end L2
namespace HT
open PySem PyProof.Rows
section
variable {prog:Program} {w:World} {A:Around} {E:Value->Shared->Prop} {s:Shared}
def Zx (ht:IsTup s.heap t vs.toArray) (hb:IsTup s.heap b ws.toArray) (hv:vs≠[])
  (h1:ws=[]->Q (.ref t) s) (h2:ws≠[]->Q (.ref s.heap.objs.size) { s with heap:=s.heap.push { cls:=.type "tuple",data:=.seq (vs++ws).toArray } })
  (hsz:vs.length+ws.length<=sizeLine):wpAny (model prog w) A (binaryOp .Add (.ref t) (.ref b)) Q E s:=by
 obtain⟨⟨cls,dd,data,sl⟩,ho,hc,n,hd⟩:=id ht;obtain⟨⟨amG,dd2,data2,K9⟩,Yc,hc2,n2,Cz⟩:=id hb;simp only at hc hd hc2 Cz;subst hc hd hc2 Cz;have e:vs.toArray++ws.toArray=(vs++ws).toArray:=by simp
 by_cases hw:ws=[]
 ·exact concat_meets ⟨_,ho,Z⟩ ⟨_,Yc,Z⟩ noFill_tuple_add seq_tuple_add PySem.F.slot_tuple_add PySem.F.entry_tuple_add (PySem.F.args_tuple_add_2 _ _)
   (tuple_addW1 t b vs.toArray ws.toArray n n2 dd dd2 sl K9 (by simpa using hv) (by simp[hw])) ⟨ho,Yc,h1 hw⟩
 refine concat_meets ⟨_,ho,Z⟩ ⟨_,Yc,Z⟩ noFill_tuple_add seq_tuple_add PySem.F.slot_tuple_add PySem.F.entry_tuple_add (PySem.F.args_tuple_add_2 _ _)
  (tuple_addW2 t b vs.toArray ws.toArray n n2 dd dd2 sl K9 (by simpa using hv) (by simpa using hw) (by rw[bz,bz];exact hsz)) ⟨ho,Yc,?_⟩
 rw[e];exact h2 hw
def vO (n d:Nat):Option Int->Nat
 | none=>d
 | some v=>if v < 0 then(v+(n:Int)).toNat else min v.toNat n
theorem Ds (n d:Nat):vO n d none=d:=rfl
def xq (n d k:Nat):vO n d (some (k:Int))=min k n:=by
 show(if(k:Int) < 0 then((k:Int)+(n:Int)).toNat else min (k:Int).toNat n)=min k n;rw[if_neg (by lia),cg]
end
end HT
namespace L2
open PySem PySem.Spec PyProof.Rows
abbrev TO:=St->Hp->(Option Int->Hp->Prop)->Prop
def PO (X:Cx) (e:Option Expr) (t:TO):Prop:=
 ∀(af:List (Addr × Obj)) (s:Shared) (σ : St) (H:Hp) (Q:Option Int->Hp->Prop),Inv X af σ H s->t σ H Q->
  wpAny (model X.prog X.w) X.A (evalPart e X.env) (λu s'=>∃o H',Inv X af σ H' s'/\IsPart u o/\Q o H') X.xe s
def PR:TO:=λ_ H Q=>Q none H
inductive Zy (Q:Option Int->Hp->Prop) (x:V) (H1:Hp):Prop where
 | mk i (_:x=.int i) (_:Q (some i) H1)
def Yd (t:TE):TO:=λσ H Q=>t σ H λx H1=>Zy Q x H1
section
variable {X:Cx} {e:Expr} {te:TE} {lo hi:Option Expr} {tl th:TO} {pos p2:Pos}
def Zz:PO X none PR:=by
 intro af s σ H Q I h;rw[evalPart_none];exact wpAny_pure ⟨none,H,I,.none,h⟩
def ZA (h:PE X e te):PO X (some e) (Yd te):=by
 intro af s σ H Q I hw;rw[evalPart_some];refine cX (h af s σ H _ I hw) λu s1 ⟨x,H1,I1,r1,q1⟩=>?_;obtain⟨i,rfl,q⟩:=q1;obtain⟨t,rfl⟩:=r1;exact⟨some i,H1,I1,.int i t,q⟩
def SlR (X:Cx) (r:V->Option Int->Option Int->Hp->VK->Prop):Prop:=
 ∀(af:List (Addr × Obj)) (s:Shared) (σ : St) (H:Hp) (x:V) (v vl vu:Value) (lo hi:Option Int) (sl:Addr) (Q:VK),Inv X af σ H s->RelV x v->s.heap.IsSliceOf sl vl vu .none->IsPart vl lo->IsPart vu hi->r x lo hi H Q->
  ∃T id,typeLookup (.type T) "__getitem__" = pure (some (.builtin id))/\s.TypeIs v T/\wpAny (model X.prog X.w) X.A (getItem v (.ref sl)) (EP X af σ Q) X.xe s
def tSl (r:V->Option Int->Option Int->Hp->VK->Prop) (te:TE) (tl th:TO):TE:=λσ H Q=>te σ H λx H1=>tl σ H1 λl H2=>th σ H2 λu H3=>r x l u H3 Q
def V3 (hr:SlR X r) (he:PE X e te) (hl:PO X lo tl) (hu:PO X hi th):PE X (.Subscript e (.Slice lo hi none p2) pos) (tSl r te tl th):=by
 intro af s σ H Q I h;refine Subscript_ (cX (he af s σ H _ I h) λv s1 ⟨x,H1,I1,r1,q1⟩=>?_);refine wpAny_Slice (cX (hl af s1 σ H1 _ I1 q1) λvl s2 ⟨l,H2,I2,pl,q2⟩=>cX (hu af s2 σ H2 _ I2 q2) λvu s3 ⟨u,H3,I3,pu,q3⟩=>?_);rw[evalPart_none];refine wpAny_pure ?_;have I4:Inv X af σ H3 { s3 with heap:=s3.heap.push { cls:=.type "slice",data:=.fields #[vl,vu,.none] } }:=I3.kept (t':=s3.toks) λb ob q=>bC _ q;obtain⟨T,id,hT,ht,hg⟩:=hr af { s3 with heap:=s3.heap.push { cls:=.type "slice",data:=.fields #[vl,vu,.none] } } σ H3 x v vl vu l u s3.heap.objs.size Q I4 r1 (Heap.IsSliceOf.new ..) pl pu q3;show wpAny (model X.prog X.w) X.A (subscriptTail e (.Slice lo hi none p2) v (.ref s3.heap.objs.size)) (EP X af σ Q) X.xe { s3 with heap:=s3.heap.push { cls:=.type "slice",data:=.fields #[vl,vu,.none] } };exact tail_any (ops:=[.ref s3.heap.objs.size,v]) ht hT hg (by with_unfolding_all rfl)
def pd (xs:List V) (lo hi:Option Int):List V:=(xs.drop (HT.vO xs.length 0 lo)).take (HT.vO xs.length xs.length hi - HT.vO xs.length 0 lo)
def O5 (xs:List V) (lo hi:Option Int):(pd xs lo hi).length<=xs.length:=by
 unfold pd;rw[bJ,dk]
 lia
inductive Ye (K:ak) (x:V) (y:V) (H:Hp) (Q:VK):Prop where
 | mk a b xs ys (_:x=.ref a) (_:y=.ref b) (_:gN K H a xs) (_:gN K H b ys) (_:xs≠[]) (_:xs.length+ys.length<=sizeLine) (_:(ys=[]->Q (.ref a) H)) (_:(ys≠[]->∀p,H p=none->Q (.ref p) (aX H p (.tup (xs++ys)))))
def Vals.Kc (r:Vals xs us):us=[]↔xs=[]:=by
 cases r with
 | nil=>simp
 | cons _ _=>simp
def ZC:mU X (binaryOp .Add) (Ye X.K):=by
 intro af s σ H x y v u Q I rx ry h;obtain⟨a,b,xs,ys,rfl,rfl,ha,hb,hx,hz,q1,q2⟩:=h;cases rx;cases ry;obtain⟨bq,r1,p1,_⟩:=I.tuple ha;obtain⟨EV,r2,p2,_⟩:=I.tuple hb;refine HT.Zx p1 p2 (λz=>hx (r1.Kc.mp z)) (λz=>⟨.ref a,H,I,Z,q1 (r2.Kc.mp z)⟩) (λz=>?_) (by rw[<- r1.length,<- r2.length];exact hz);refine⟨.ref s.heap.objs.size,_,I.laid (t':=s.toks) (o:=.tup (xs++ys)) (λb ob q=>bC _ q) (aN _) ?_,Z,q2 (λw=>z (r2.Kc.mpr w)) _ (I.cM.fresh (aN _))⟩;exact⟨by rw[ay];exact hz,_,r1.append r2,IsTup.new _ _⟩
end
def EW (n:Nat) (i:Int):Option Nat:=if 0<=i then(if i < n then some i.toNat else none) else if -(n:Int)<=i then some (i+n).toNat else none
def w8 {α : Type} (xs:List α) (i:Int):Option α:=(EW xs.length i).bind λj=>xs[j]?
def PU (h:EW n i=some j):seqIndex? i n=some j/\j < n/\-(n:Int)<=i/\i < n:=by
 unfold EW at h;by_cases h0:0<=i
 ·rw[if_pos h0] at h
  by_cases h1:i < n
  ·rw[if_pos h1] at h
   have e:i.toNat=j:=bN.inj h;exact⟨by rw[seqIndex_of h0 h1,e],by lia,by lia,h1⟩
  rw[if_neg h1] at h;cases h
 rw[if_neg h0] at h;by_cases h1:-(n:Int)<=i
 ·rw[if_pos h1] at h
  have e:(i+n).toNat=j:=bN.inj h;exact⟨by rw[seqIndex_neg (by lia) h1,e],by lia,h1,by lia⟩
 rw[if_neg h1] at h;cases h
def Kd {α : Type} {xs:List α} {i:Int} {v:α} (h:w8 xs i=some v) :∃j,seqIndex? i xs.length=some j/\xs[j]?=some v/\j < xs.length/\-(xs.length:Int)<=i/\i < xs.length:=by
 unfold w8 at h;cases e:EW xs.length i with
 | none=>rw[e] at h;cases h
 | some j=>
  rw[e] at h;obtain⟨h1,h2,h3,h4⟩:=PU e;exact⟨j,h1,h,h2,h3,h4⟩
def b8 {α : Type} {xs:List α} {j:Nat} {v:α} (h:xs[j]?=some v):w8 xs (j:Int)=some v:=by
 have hj:j < xs.length:=(az.mp h).1;have e:EW xs.length (j:Int)=some j:=by
  unfold EW;rw[if_pos (by lia),if_pos (by lia)];simp
 unfold w8;rw[e];exact h
def V4 {α : Type} (xs:List α) (v:α):w8 (xs++[v]) (-1)=some v:=by
 have hl:(xs++[v]).length=xs.length+1:=by simp
 have e:EW (xs++[v]).length (-1)=some xs.length:=by
  unfold EW;rw[hl,if_neg (by decide),if_pos (by lia)];congr 1
  lia
 unfold w8;rw[e];show(xs++[v])[xs.length]?=some v;simp
def Gj (b:Expr):Prop:=∀o i,subscripted b false o i=operate [o,i] (getItem o i)
def Yf (X:Cx) (r:R2):Prop:=
 ∀(value slice:Expr) (af:List (Addr × Obj)) (s:Shared) (σ : St) (H:Hp) (x y:V) (v u:Value) (Q:VK),Inv X af σ H s->RelV x v->RelV y u->r x y H Q->
  subscripted slice false v u=operate [v,u] (getItem v u)->wpAny (model X.prog X.w) X.A (subscriptTail value slice v u) (EP X af σ Q) X.xe s
def PV (X:Cx) (id:String) (r:V->List V->Hp->VK->Prop):Prop:=
 ∀(af:List (Addr × Obj)) (s:Shared) (σ : St) (H:Hp) (x:V) (xs:List V) (v:Value) (us:List Value) (Q:VK),Inv X af σ H s->RelV x v->Vals xs us->r x xs H Q->
  wpAny (model X.prog X.w) X.A (call (.builtin id) (v::us)) (EP X af σ Q) X.xe s
section
variable {X:Cx} {a b:Expr} {ta tb:TE} {pos:Pos}
def RQ {r:R2} (hr:Yf X r) (ha:PE X a ta) (hb:PE X b tb) (hs:Gj b):PE X (.Subscript a b pos) (gI r ta tb):=by
 intro af s σ H Q I h;exact Subscript_ (VQ ha hb I h λv u s2 x y H2 I2 rx ry q=>hr a b af s2 σ H2 x y v u Q I2 rx ry q (hs _ _))
inductive V5 (K:ak) (x:V) (y:V) (H:Hp) (Q:VK):Prop where
 | mk p xs i v (_:x=.ref p) (_:y=.int i) (_:aO K H p xs) (_:w8 xs i=some v) (_:Q v H)
inductive V6 (K:ak) (x:V) (y:V) (H:Hp) (Q:VK):Prop where
 | mk p xs i v (_:x=.ref p) (_:y=.int i) (_:gN K H p xs) (_:w8 xs i=some v) (_:Q v H)
inductive abX (x:V) (y:V) (H:Hp) (Q:VK):Prop where
 | mk z i c (_:x=.str z) (_:y=.int i) (_:z.length<=sizeLine) (_:w8 z.cps.toList i=some c) (_:Q (.str ⟨#[c]⟩) H)
def ZD:Yf X (V5 X.K):=by
 intro value slice af s σ H x y v u Q I rx ry h hs;obtain⟨p,xs,i,z,rfl,rfl,hq,he,q⟩:=h;cases rx;obtain⟨t,rfl⟩:=ry;obtain⟨bq,r,pl,hz⟩:=I.list hq;obtain⟨j,h1,h2,h3,h4,h5⟩:=Kd he;obtain⟨w,ew,Tz⟩:=r.get h2;have hl:=r.length;have hn:=Cy;have di:EP X af σ Q w s:=⟨z,H,I,Tz,q⟩
 by_cases h0:0<=i
 ·have hj:i.toNat=j:=by
   rw[seqIndex_of h0 h5] at h1;exact bN.inj h1
  exact item_listR pl.isList h0 (by lia) (by rw[hj];simpa using ew) di hs
 have hj:(i+(bq.toArray.size:Int)).toNat=j:=by
  rw[seqIndex_neg (by lia) h4] at h1;rw[bz,<- hl];exact bN.inj h1
 exact subscriptTail_builtinR (x:=w) pl.isList.typeIs slot_list_getitem.lookup
  (wpAny_getItem_list_neg (Q:=λr s'=>r=w/\EP X af σ Q r s') pl.isList (by lia) (by rw[bz] <;> lia) (by lia) (by rw[hj];simpa using ew) ⟨Z,di⟩) hs
def abY:Yf X (V6 X.K):=by
 intro value slice af s σ H x y v u Q I rx ry h hs;obtain⟨p,xs,i,z,rfl,rfl,hq,he,q⟩:=h;cases rx;obtain⟨t,rfl⟩:=ry;obtain⟨bq,r,pl,hz⟩:=I.tuple hq;obtain⟨j,h1,h2,h3,h4,h5⟩:=Kd he;obtain⟨w,ew,Tz⟩:=r.get h2;have hl:=r.length;have hn:=Cy;have di:EP X af σ Q w s:=⟨z,H,I,Tz,q⟩
 exact subscriptTail_builtinR (x:=w) pl.typeIs slot_tuple_getitem.lookup
  (getItem_tuple (j:=j) (Q:=λr s'=>r=w/\EP X af σ Q r s') pl (by lia) (by lia) (by rw[bz,<- hl];exact h1) (by simpa using ew) ⟨Z,di⟩) hs
def abZ:Yf X abX:=by
 intro value slice af s σ H x y v u Q I rx ry h hs;obtain⟨z,i,c,rfl,rfl,hz,he,q⟩:=h;obtain⟨t,rfl⟩:=rx;obtain⟨t',rfl⟩:=ry;obtain⟨j,h1,h2,h3,h4,h5⟩:=Kd he;have hl:z.cps.toList.length=z.length:=by simp[Str.length]
 rw[hl] at h1 h4 h5;have hn:=Cy;exact tail_any (typeIs_str s z t) slot_str_getitem.lookup (getItem_str (c:=c) (by
  have e1:decide (i < -(2 ^ 63:Int))=false:=decide_eq_false (by lia);have e2:decide (i ≥ 2 ^ 63)=false:=decide_eq_false (by lia);rw[e1,e2,fE]) (by rw[h1];simpa using h2) ⟨.str ⟨#[c]⟩,H,I.tok _,⟨_,Z⟩,q⟩) hs
def RR (bq:List Value) (n j:Nat) (u:Value):Obj.mapSeq (·.setIfInBounds j u) { cls:=.type "list",data:=.seq bq.toArray n } = { cls:=.type "list",data:=.seq (bq.set j u).toArray n }:=by
 simp[Obj.mapSeq]
theorem Inv.lst {af:List (Addr × Obj)} {σ : St} {H:Hp} {s:Shared} {p:Addr} {xs:List V} (I:Inv X af σ H s) (h:H p=some (.lst xs)) :
  ∃(bq:List Value) (n:Nat),Vals xs bq/\s.heap.get? p=some { cls:=.type "list",data:=.seq bq.toArray n }/\xs.length<=sizeLine:=by
 obtain⟨z,bq,n,r,e⟩:=I.cM p _ h;exact⟨bq,n,r,e,z⟩
def Inv.ab0 {af:List (Addr × Obj)} {σ : St} {H:Hp} {s:Shared} {p:Addr} {xs ys:List V} {bq its':List Value} {n n':Nat} {f:Obj->Obj} (I:Inv X af σ H s) (h:H p=some (.lst xs))
  (ho:s.heap.get? p=some { cls:=.type "list",data:=.seq bq.toArray n }) (hf:f { cls:=.type "list",data:=.seq bq.toArray n } = { cls:=.type "list",data:=.seq its'.toArray n' }) (r:Vals ys its') (hz:ys.length<=sizeLine) (t:Nat) :
  Inv X af σ (aX H p (.lst ys)) { s with heap:=s.heap.update p f,toks:=t }:=by
 have e:(s.heap.update p f).get? p=some { cls:=.type "list",data:=.seq its'.toArray n' }:=by
  rw[pW f ho (by rw[hf] <;> rfl),hf]
 refine I.write (x:=p) (e:=p) (by rw[h];trivial) (.inl rfl) (λb u hb q=>(gY _ _ (Ne.symm hb)).trans q) ⟨_,e⟩ ?_;exact⟨hz,its',n',r,e⟩
inductive Mw (o:V) (i:V) (v:V) (H:Hp) (Q:Hp->Prop):Prop where
 | mk p xs k j (_:o=.ref p) (_:i=.int k) (_:H p=some (.lst xs)) (_:EW xs.length k=some j) (_:Q (aX H p (.lst (xs.set j v))))
def set_list:abg X Mw:=by
 intro af s σ H o i v ov iv u Q I ro ri rv h;obtain⟨p,xs,k,j,rfl,rfl,hp,hj,q⟩:=h;cases ro;obtain⟨t,rfl⟩:=ri;obtain⟨bq,n,r,ho,hz⟩:=I.lst hp;obtain⟨h1,h2,h3,h4⟩:=PU hj;have hl:=r.length;have hn:=Cy;have I':Inv X af σ (aX H p (.lst (xs.set j v))) { s with heap:=s.heap.update p (Obj.mapSeq (·.setIfInBounds j u)) }:=
  I.ab0 hp ho (RR bq n j u) (r.set rv j) (by rw[wR];exact hz) s.toks
 by_cases h0:0<=k
 ·have hk:k.toNat=j:=by
   rw[seqIndex_of h0 h4] at h1;exact bN.inj h1
  exact PySem.W.ki_setAt ho h0 (by lia) (by rw[bz,<- hl];exact h4) (by rw[hk];exact⟨_,I',q⟩)
 have hk:(k+(bq.toArray.size:Int)).toNat=j:=by
  rw[seqIndex_neg (by lia) h3] at h1;rw[bz,<- hl];exact bN.inj h1
 exact PySem.W.ki_setBack ho (by lia) (by rw[bz,<- hl];exact h3) (by lia) (by rw[hk];exact⟨_,I',q⟩)
def M1 (lo hi:Option Int) (n:Nat):(sliceBounds lo hi none n).1=((HT.vO n 0 lo:Nat):Int)/\(sliceBounds lo hi none n).2.1=((HT.vO n n hi:Nat):Int)/\(sliceBounds lo hi none n).2.2=1:=by
 refine⟨?_,?_,Z⟩
 ·cases lo with
  | none=>simp[sliceBounds,HT.vO]
  | some i=>
   simp only[sliceBounds,HT.vO,Option.getD_none,show(1:Int) > 0 by decide,if_true];by_cases h:i < 0
   ·simp only[h,if_true] <;> lia
   simp only[h,if_false] <;> lia
 cases hi with
 | none=>simp[sliceBounds,HT.vO]
 | some i=>
  simp only[sliceBounds,HT.vO,Option.getD_none,show(1:Int) > 0 by decide,if_true];by_cases h:i < 0
  ·simp only[h,if_true] <;> lia
  simp only[h,if_false] <;> lia
def Ma (bq:List Value) (lo hi:Option Int):slicePick bq.toArray lo hi none=((bq.drop (HT.vO bq.length 0 lo)).take (HT.vO bq.length bq.length hi - HT.vO bq.length 0 lo)).toArray:=by
 obtain⟨h1,h2,h3⟩:=M1 lo hi bq.toArray.size;unfold slicePick;rw[h1,h2,h3];simp only[sliceRange_one,pick_run,bz] <;> rfl
inductive ab1 (K:ak) (x:V) (lo:Option Int) (hi:Option Int) (H:Hp) (Q:VK):Prop where
 | mk a xs (_:x=.ref a) (_:aO K H a xs) (_ :∀p,H p=none->Q (.ref p) (aX H p (.lst (pd xs lo hi))))
def ZE:SlR X (ab1 X.K):=by
 intro af s σ H x v vl vu lo hi sl Q I rx hs pl pu h;obtain⟨a,xs,rfl,hx,q⟩:=h;cases rx;obtain⟨bq,r,ht,hz⟩:=I.list hx;have eP:=r.length;refine⟨"list",_,slot_list_getitem.lookup,ht.isList.typeIs,?_⟩;refine wpAny_getItem_list_slice ht.isList hs pl pu .none (by simp) ?_ (by rw[bz] <;> lia);rw[Ma,<- eP];refine⟨.ref s.heap.objs.size,_,I.laid (t':=s.toks) (o:=.lst (pd xs lo hi)) (λb ob q=>bC _ q) (aN _) ?_,Z,q _ (I.cM.fresh (aN _))⟩;exact⟨c8 (O5 xs lo hi) hz,_,0,(r.drop (HT.vO xs.length 0 lo)).take (HT.vO xs.length xs.length hi - HT.vO xs.length 0 lo),dt _ rfl⟩
def qo:V->Bool
 | .cj=>true
 | .bl _=>true
 | .int _=>true
 | .str _=>true
 | _=>false
def Bs:V->V->Bool
 | .cj,.cj=>true
 | .bl a,.bl b=>a == b
 | .bl a,.int b=>(if a then 1 else 0) == b
 | .int a,.bl b=>a == (if b then 1 else 0)
 | .int a,.int b=>a == b
 | .str a,.str b=>a == b
 | _,_=>false
def ab2 (ry:RelV y u) (rx:RelV x v) (fy:qo y=true) (fx:qo x=true):eX A s u v (Bs y x):=by
 cases y with
 | cj=>
  cases ry;cases x with
  | cj=>cases rx;exact eX.same _
  | bl b=>cases rx;exact eX.none_bool b
  | int b=>obtain⟨t,rfl⟩:=rx;exact eX.none_int b t
  | str b=>obtain⟨t,rfl⟩:=rx;exact eX.none_str b t
  | _=>exact absurd (show false=true from fx) bQ
 | bl a=>
  cases ry;cases x with
  | cj=>cases rx;exact eX.bool_none a
  | bl b=>cases rx;exact eX.bool_bool a b
  | int b=>obtain⟨t,rfl⟩:=rx;exact eX.bool_int a b t
  | str b=>obtain⟨t,rfl⟩:=rx;exact eX.bool_str a b t
  | _=>exact absurd (show false=true from fx) bQ
 | int a=>
  obtain⟨t',rfl⟩:=ry;cases x with
  | cj=>cases rx;exact eX.int_none a t'
  | bl b=>cases rx;exact eX.int_bool a t' b
  | int b=>obtain⟨t,rfl⟩:=rx;exact eX.int_int a t' b t
  | str b=>obtain⟨t,rfl⟩:=rx;exact eX.int_str a t' b t
  | _=>exact absurd (show false=true from fx) bQ
 | str a=>
  obtain⟨t',rfl⟩:=ry;cases x with
  | cj=>cases rx;exact eX.str_none a t'
  | bl b=>cases rx;exact eX.str_bool a t' b
  | int b=>obtain⟨t,rfl⟩:=rx;exact eX.str_int a t' b t
  | str b=>obtain⟨t,rfl⟩:=rx;exact eX.str_str a t' b t
  | _=>exact absurd (show false=true from fx) bQ
 | _=>exact absurd (show false=true from fy) bQ
def yY (x:V) (u:Value):Bool:=match u with
 | .none=>Bs .cj x
 | .bool b=>Bs (.bl b) x
 | .int i _=>Bs (.int i) x
 | .str z _=>Bs (.str z) x
 | _=>false
def IU (r:RelV y u) (f:qo y=true):yY x u=Bs y x:=by
 cases y with
 | cj=>cases r;rfl
 | bl b=>cases r;rfl
 | int i=>obtain⟨t,rfl⟩:=r;rfl
 | str z=>obtain⟨t,rfl⟩:=r;rfl
 | _=>exact absurd (show false=true from f) bQ
theorem CA :∀{xs:List V} {us:List Value},Vals xs us->xs.all qo=true->us.any (yY x)=xs.any λy=>Bs y x
 | _,_,.nil,_=>rfl
 | y::xs,u::us,.cons r t,f=>by
  rw[uF,aB] at f;rw[gQ,gQ,IU r f.1,CA t f.2]
theorem xr (rx:RelV x v) (fx:qo x=true) :∀{xs:List V} {us:List Value},Vals xs us->xs.all qo=true->∀u∈us,eX A s u v (yY x u)
 | _,_,.nil,_=>λu hu=>by cases hu
 | y::xs,u::us,.cons r t,f=>λu' hu=>by
  rw[uF,aB] at f;rcases bS.mp hu with rfl | hu
  ·rw[IU r f.1];exact ab2 r rx f.1 fx
  exact xr rx fx t f.2 u' hu
def pf (x:V) (xs:List V):Bool:=xs.any λy=>Bs y x
inductive TB (K:ak) (neg:Bool) (x:V) (y:V) (H:Hp) (Q:VK):Prop where
 | mk p xs (_:y=.ref p) (_:(aO K H p xs\/gN K H p xs)) (_:qo x=true) (_:xs.all qo=true) (_:Q (.bl (if neg then !pf x xs else pf x xs)) H)
def La:mU X (compareOp .In) (TB X.K false):=by
 intro af s σ H x y v u Q I rx ry h;obtain⟨p,xs,rfl,hq,fx,fs,q⟩:=h;cases ry;rcases hq with hq | hq
 ·obtain⟨bq,r,pl,hz⟩:=I.list hq
  refine SeqAt.in_listAt (yY x) pl.isList (λw hw=>xr rx fx r fs w (by simpa using hw)) ⟨.bl _,H,I,Z,?_⟩;rw[show bq.toArray.any (yY x)=bq.any (yY x) by simp,CA r fs];exact q
 obtain⟨bq,r,pl,hz⟩:=I.tuple hq;refine SeqAt.in_tupleAt (yY x) pl (λw hw=>xr rx fx r fs w (by simpa using hw)) ⟨.bl _,H,I,Z,?_⟩;rw[show bq.toArray.any (yY x)=bq.any (yY x) by simp,CA r fs];exact q
def M3:mU X (compareOp .NotIn) (TB X.K true):=by
 intro af s σ H x y v u Q I rx ry h;obtain⟨p,xs,rfl,hq,fx,fs,q⟩:=h;cases ry;rcases hq with hq | hq
 ·obtain⟨bq,r,pl,hz⟩:=I.list hq
  refine SeqAt.notIn_listAt (yY x) pl.isList (λw hw=>xr rx fx r fs w (by simpa using hw)) ⟨.bl _,H,I,Z,?_⟩;rw[show bq.toArray.any (yY x)=bq.any (yY x) by simp,CA r fs];exact q
 obtain⟨bq,r,pl,hz⟩:=I.tuple hq;refine SeqAt.notIn_tupleAt (yY x) pl (λw hw=>xr rx fx r fs w (by simpa using hw)) ⟨.bl _,H,I,Z,?_⟩;rw[show bq.toArray.any (yY x)=bq.any (yY x) by simp,CA r fs];exact q
def M4:qm X (.builtin "len") (λxs H Q=>∃p ys,xs=[.ref p]/\(aO X.K H p ys\/gN X.K H p ys)/\Q (.int ys.length) H):=by
 intro af s σ H xs us Q I r h;obtain⟨p,ys,rfl,hq,q⟩:=h;obtain⟨u,rfl,rx⟩:=vals1 r;cases rx;have hn:=Cy;rcases hq with hq | hq
 ·obtain⟨bq,r',pl,hz⟩:=I.list hq
  have eP:=r'.length;exact Calls.call_len_list pl.isList (by simp only[bz] <;> lia) ⟨.int ys.length,H,I.tok _,⟨s.toks+1,by rw[bz,eP]⟩,q⟩
 obtain⟨bq,r',pl,hz⟩:=I.tuple hq;have eP:=r'.length;exact len_tuple pl (by simp only[bz] <;> lia) ⟨.int ys.length,H,I.tok _,⟨s.toks+1,by rw[bz,eP]⟩,q⟩
def M5:qm X (.type "list") (λxs H Q=>∃p ys,xs=[.ref p]/\(aO X.K H p ys\/gN X.K H p ys)/\∀l,H l=none->Q (.ref l) (aX H l (.lst ys))):=by
 intro af s σ H xs us Q I r h;obtain⟨p,ys,rfl,hq,q⟩:=h;obtain⟨u,rfl,rx⟩:=vals1 r;cases rx;have di :∀(bq:List Value),Vals ys bq->ys.length<=sizeLine->∀(h':Heap) (c':Nat),(∀b o',s.heap.get? b=some o'->h'.get? b=some o')->
   h'.get? s.heap.objs.size=some { cls:=.type "list",dict:=none,data:=.seq bq.toArray c',slots:=#[] }->EP X af σ Q (.ref s.heap.objs.size) { s with heap:=h' }:=λbq r' hz h' c' kp e=>
  ⟨.ref s.heap.objs.size,_,I.laid (t':=s.toks) kp (aN _) (show j6 X.prog X.w _ h' _ (.lst ys) from⟨hz,bq,c',r',e⟩),Z,q _ (I.cM.fresh (aN _))⟩
 rcases hq with hq | hq
 ·obtain⟨bq,r',pl,hz⟩:=I.list hq
  have eP:=r'.length;obtain⟨o,ho,hc,n,hd⟩:=pl.isList;exact call_list_seq p (.inl rfl) ho hc hd (λh' c' kp e=>di bq r' hz h' c' kp e) (by simp only[bz] <;> lia)
 obtain⟨bq,r',pl,hz⟩:=I.tuple hq;have eP:=r'.length;obtain⟨o,ho,hc,n,hd⟩:=pl;exact call_list_seq p (.inr rfl) ho hc hd (λh' c' kp e=>di bq r' hz h' c' kp e) (by simp only[bz] <;> lia)
def M6 (K:ak) (T:String) (x:V) (H:Hp):Prop:=match x with
 | .str _=>T = "str"
 | .int _=>T = "int"
 | .ref p=>(T = "list"/\∃xs,aO K H p xs)\/(T = "tuple"/\∃o,K.lookup p=some o/\o.cls=.type "tuple"/\o.dict=none)\/
   (T = "dict"/\((∃fV,H p=some (.dK fV))\/∃fV,H p=some (.dT fV)))\/(T = "set"/\∃S n,H p=some (.set S n))
 | _=>False
def TC {T:String} (I:Inv X af σ H s) (r:RelV x v) (ty:M6 X.K T x H) :
  s.TypeIs v T/\∀a,v=.ref a->∃ob,s.heap.get? a=some ob/\ob.dict=none:=by
 cases x with
 | str z=>
  obtain⟨t,rfl⟩:=r;cases (show T = "str" from ty);exact⟨typeIs_str s z t,λ_ e=>nomatch e⟩
 | int i=>
  obtain⟨t,rfl⟩:=r;cases (show T = "int" from ty);exact⟨typeIs_int s i t,λ_ e=>nomatch e⟩
 | ref p=>
  cases r;rcases ty with⟨rfl,xs,hq⟩ | ⟨rfl,o,hk,hc,hd⟩ | ⟨rfl,hk⟩ | ⟨rfl,S,n,hk⟩
  ·obtain⟨bq,_,pl,_⟩:=I.list hq
   refine⟨pl.isList.typeIs,λa e=>?_⟩;cases e;obtain⟨o,n,e,c,hd,_⟩:=pl;exact⟨o,e,hd⟩
  ·refine⟨⟨o,I.j9 p o hk,hc⟩,λa e=>?_⟩
   cases e;exact⟨o,I.j9 _ o hk,hd⟩
  ·have z :∃o,s.heap.get? p=some o/\o.ExactDict:=by
    rcases hk with⟨fV,hk⟩ | ⟨fV,hk⟩
    ·obtain⟨_,_,_,_,o,_,_,e,ex,_⟩:=I.cM p _ hk
     exact⟨o,e,ex⟩
    obtain⟨_,_,_,_,o,_,_,e,ex,_⟩:=I.cM p _ hk;exact⟨o,e,ex⟩
   obtain⟨o,e,ex⟩:=z;refine⟨⟨o,e,ex.1⟩,λa e2=>?_⟩;cases e2;exact⟨o,e,ex.2.1⟩
  obtain⟨o,_,_,_,e,ex,_⟩:=I.cM p _ hk;refine⟨⟨o,e,ex.1⟩,λa e2=>?_⟩;cases e2;exact⟨o,e,ex.2.1⟩
 | _=>exact False.elim ty
def agU (K:ak) (T:String) (r:V->List V->Hp->VK->Prop) (to:TE):TE:=λσ H Q=>to σ H λx H1=>M6 K T x H1/\r x [] H1 Q
def tBM (K:ak) (T:String) (r:V->List V->Hp->VK->Prop) (to:TE) (t:TA):TE:=λσ H Q=>to σ H λx H1=>M6 K T x H1/\t σ H1 λxs H2=>r x xs H2 Q
variable {o e:Expr} {es:List Expr} {to:TE} {t:TA} {name:Str} {apos cpos:Pos} {T id:String} {r:V->List V->Hp->VK->Prop}
def ab3 (pa:PlainAttrs T) (slot:Slot T name id) (Lb:typeOf (.builtin id)=pure (.type "method_descriptor")) (hm:PV X id r) (ho:PE X o to)
  (kH:attributeBase o name X.env (eval o X.env)=eval o X.env:=by rfl) (l7:(apos.endLine == cpos.line)=true:=by rfl):PE X (.Call (.Attribute o name apos) [] [] cpos) (agU X.K T r to):=by
 intro af s σ H Q I h;refine wpAny_Call_method0_late kH l7 (cX (ho af s σ H _ I h) λv s1 ⟨x,H1,I1,r1,ty,q1⟩=>?_);obtain⟨h1,h2⟩:=TC I1 r1 ty;exact⟨T,id,pa,slot,Lb,h1,h2,Calls.callWith_builtin rfl (PySem.evalArgs_none (hm af s1 σ H1 x [] v [] Q I1 r1 .nil q1))⟩
def RS (pa:PlainAttrs T) (slot:Slot T name id) (Lb:typeOf (.builtin id)=pure (.type "method_descriptor")) (hm:PV X id r) (ho:PE X o to) (ha:PA X (e::es) t)
  (kH:attributeBase o name X.env (eval o X.env)=eval o X.env:=by rfl)
  (agV:((backTo cpos (starEach (e::es) X.env)).all (λx=>!x.1)&&(backToKw cpos (keywordEach [] X.env)).all (λx=>x.1.isSome)
   && decide ((e::es).length+([]:List Keyword).length+(if([]:List Keyword).isEmpty then 0 else 1) < 30))=true:=by rfl)
  (l7:(apos.endLine == cpos.line)=true:=by rfl) (hs:starEach (e::es) X.env=(false,eval e X.env)::starEach es X.env:=by rfl) (ab4:(backTo cpos (starEach es X.env)).any (·.1)=false:=by rfl) :
  PE X (.Call (.Attribute o name apos) (e::es) [] cpos) (tBM X.K T r to t):=by
 intro af s σ H Q I h;refine wpAny_Call_method_late kH agV l7 rfl (cX (ho af s σ H _ I h) λv s1 ⟨x,H1,I1,r1,ty,q1⟩=>?_);obtain⟨h1,h2⟩:=TC I1 r1 ty;refine⟨T,id,pa,slot,Lb,h1,h2,?_⟩;have hA:=ha cpos af s1 σ H1 _ I1 q1;rw[hs] at hA ⊢;refine Calls.callWith_builtin (by show(false || (backTo cpos (starEach es X.env)).any (·.1))=false;rw[ab4] <;> rfl) (Calls.evalArgs_plain ?_);exact cX hA λus s2 ⟨vs,H2,I2,r2,q2⟩=>hm af s2 σ H2 x vs v us Q I2 r1 r2 q2
end
def MtM (X:Cx) (id:String) (r:V->List V->Hp->VK->Prop):Prop:=
 ∀(af:List (Addr × Obj)) (s:Shared) (σ : St) (H:Hp) (x:V) (xs:List V) (v:Value) (us:List Value) (Q:VK),Inv X af σ H s->RelV x v->Vals xs us->r x xs H Q->
  wpAny (model X.prog X.w) X.A (call (.builtin id) (v::us)) (EP X af σ Q) X.xe s
theorem Vals.one :∀{x:V} {us:List Value},Vals [x] us->∃u,us=[u]/\RelV x u
 | _,_,.cons r .nil=>⟨_,Z,r⟩
theorem Vals.zero :∀{us:List Value},Vals [] us->us=[]
 | _,.nil=>rfl
theorem Vals.dropLast {xs:List V} {us:List Value} (h:Vals xs us):Vals xs.dropLast us.dropLast:=by
 induction h with
 | nil=>exact .nil
 | cons r t ih=>
  cases t with
  | nil=>exact .nil
  | cons q t'=>exact .cons r ih
def RT {α : Type} (l:List α):l.eraseIdx (l.length - 1)=l.dropLast:=by
 induction l with
 | nil=>rfl
 | cons a r ih=>
  cases r with
  | nil=>rfl
  | cons b r=>
   have e:(a::b::r).length - 1=((b::r).length - 1)+1:=by
    have h1:(a::b::r).length=r.length+2:=rfl;have h2:(b::r).length=r.length+1:=rfl
    lia
   rw[e,List.eraseIdx_cons_succ,ih];all_goals rfl
section
variable {X:Cx} {af:List (Addr × Obj)} {σ : St} {H:Hp} {s:Shared} {l b:Addr} {xs ys zs:List V}
def Inv.V7 {bq its':List Value} {n:Nat} {f:Array Value->Array Value} {t':Nat} (I:Inv X af σ H s) (hH:H l=some (.lst xs))
  (e:s.heap.get? l=some { cls:=.type "list",data:=.seq bq.toArray n }) (hf:f bq.toArray=its'.toArray) (hv:Vals ys its') (hz:ys.length<=sizeLine) :
  Inv X af σ (aX H l (.lst ys)) { s with heap:=s.heap.update l (Obj.mapSeq f),toks:=t' }:=by
 have q:=PySem.IsL.update e f;rw[hf] at q;refine I.write (x:=l) (e:=l) (by rw[hH];exact trivial) (.inl rfl) (λb' u hb hu=>(gY s.heap (Obj.mapSeq f) (Ne.symm hb)).trans hu) ⟨_,q⟩ ?_;exact⟨hz,its',_,hv,q⟩
theorem Inv.agW (I:Inv X af σ H s) (hv:Vals ys bq) (hz:ys.length<=sizeLine) :
  Inv X af σ (aX H s.heap.objs.size (.lst ys)) { s with heap:=s.heap.push { cls:=.type "list",data:=.seq bq.toArray },toks:=t' }:=
 I.laid (λ_ _ q=>bC _ q) (aN _) ⟨hz,bq,0,hv,dt _ rfl⟩
theorem Inv.fresh (I:Inv X af σ H s):H s.heap.objs.size=none:=I.cM.fresh (aN _)
def Inv.Ke (I:Inv X af σ H s) (hH:H l=some (.lst xs)):xs.length<=sizeLine/\∃(bq:List Value) (n:Nat),Vals xs bq/\xs.length=bq.length/\s.heap.get? l=some { cls:=.type "list",data:=.seq bq.toArray n }:=by
 obtain⟨z,bq,n,r,e⟩:=I.cM l _ hH;exact⟨z,bq,n,r,r.length,e⟩
def V8 {n:Nat} (h:n<=sizeLine):Builtin.List.listTooLong n=false:=by
 unfold Builtin.List.listTooLong;exact decide_eq_false (by lia)
end
section
variable {X:Cx}
inductive ZF (x:V) (vs:List V) (H:Hp) (Q:VK):Prop where
 | mk l xs y (_:x=.ref l) (_:vs=[y]) (_:H l=some (.lst xs)) (_:xs.length < sizeLine) (_:Q .cj (aX H l (.lst (xs++[y]))))
def TH:MtM X "list.append" ZF:=by
 intro af s σ H x vs v us Q I rx rv h;obtain⟨l,xs,y,rfl,rfl,hH,hz,q⟩:=h;cases rx;obtain⟨u,rfl,ru⟩:=rv.one;obtain⟨z,bq,n,r,hl,e⟩:=I.Ke hH;refine call_meets F.slot_list_append ⟨_,e,Z⟩ F.entry_list_append (F.args_list_append_2 _ _) (PySem.list_append l bq.toArray n u (by rw[bz];lia)) ⟨e,?_⟩;refine⟨.cj,_,I.V7 (its':=bq++[u]) hH e (by simp) (r.append (.cons ru .nil)) ?_,Z,q⟩;rw[ay,iq]
 lia
inductive PX (x:V) (vs:List V) (H:Hp) (Q:VK):Prop where
 | mk l b xs zs (_:x=.ref l) (_:vs=[.ref b]) (_:H l=some (.lst xs)) (_:H b=some (.lst zs)) (_:xs.length+zs.length<=sizeLine) (_:Q .cj (aX H l (.lst (xs++zs))))
def TJ:MtM X "list.extend" PX:=by
 intro af s σ H x vs v us Q I rx rv h;obtain⟨l,b,xs,zs,rfl,rfl,hH,hB,hz,q⟩:=h;cases rx;obtain⟨u,rfl,ru⟩:=rv.one;cases ru;obtain⟨z,bq,n,r,hl,e⟩:=I.Ke hH;obtain⟨z2,EV,n2,r2,TK,e2⟩:=I.Ke hB;have hsz:bq.toArray.size+EV.toArray.size<=sizeLine:=by rw[bz,bz];lia
 have aeG:¬ (!bq.toArray.isEmpty&&Builtin.List.listTooLong (bq.toArray.size+EV.toArray.size))=true:=by
  rw[V8 hsz,xR];exact bQ
 refine call_meets F.slot_list_extend ⟨_,e,Z⟩ F.entry_list_extend (F.args_list_extend_2 _ _)
  (AutoSeq1.list_extend_list_list_0 l bq.toArray n b EV.toArray n2 aeG (by rw[bz];lia) (by lia)) ⟨e,e2,?_⟩
 refine⟨.cj,_,I.V7 (its':=bq++EV) hH e (by simp) (r.append r2) ?_,Z,q⟩;rw[ay]
 lia
inductive ab6 (x:V) (vs:List V) (H:Hp) (Q:VK):Prop where
 | mk l xs y (_:x=.ref l) (_:vs=[]) (_:H l=some (.lst xs)) (_:xs[xs.length - 1]?=some y) (_:Q y (aX H l (.lst xs.dropLast)))
def ab7:MtM X "list.pop" ab6:=by
 intro af s σ H x vs v us Q I rx rv h;obtain⟨l,xs,y,rfl,rfl,hH,hy,q⟩:=h;cases rx;have hus:=rv.zero;subst hus;obtain⟨z,bq,n,r,hl,e⟩:=I.Ke hH;obtain⟨u,hu,ru⟩:=r.get hy;have TL:bq.toArray[bq.toArray.size - 1]?=some u:=by
  show bq.toArray[bq.length - 1]?=some u;rw[<- Array.getElem?_toList,<- hl];exact hu
 refine call_meets F.slot_list_pop ⟨_,e,Z⟩ F.entry_list_pop (F.args_list_pop_1 _) (MeetsSeq.list_pop_last l bq.toArray n u TL (by rw[bz];lia)) ⟨e,?_⟩;refine⟨y,_,I.V7 (its':=bq.dropLast) hH e ?_ r.dropLast ?_,ru,q⟩
 ·show bq.toArray.eraseIdxIfInBounds (bq.toArray.size - 1)=bq.dropLast.toArray
  rw[bz,List.eraseIdxIfInBounds_toArray,RT]
 rw[List.length_dropLast]
 lia
inductive M7 (x:V) (y:V) (H:Hp) (Q:VK):Prop where
 | mk l b xs zs (_:x=.ref l) (_:y=.ref b) (_:H l=some (.lst xs)) (_:H b=some (.lst zs)) (_:xs.length+zs.length<=sizeLine) (_ :∀p,H p=none->Q (.ref p) (aX H p (.lst (xs++zs))))
def ab8:mU X (binaryOp .Add) M7:=by
 intro af s σ H x y v u Q I rx ry h;obtain⟨l,b,xs,zs,rfl,rfl,hH,hB,hz,q⟩:=h;cases rx;cases ry;obtain⟨z,bq,n,r,hl,e⟩:=I.Ke hH;obtain⟨z2,EV,n2,r2,TK,e2⟩:=I.Ke hB;refine PySem.P.add_list e e2 ?_ (by rw[bz,bz];lia);have ea:bq.toArray++EV.toArray=(bq++EV).toArray:=by simp
 rw[ea];exact⟨.ref _,_,I.agW (t':=s.toks) (r.append r2) (by rw[ay];lia),Z,q _ I.fresh⟩
end
theorem Vals.ints :∀{ns:List Int} {us:List Value},Vals (ns.map V.int) us->IntsAre us ns
 | [],us,h=>by
  rw[pX] at h;cases h;exact IntsAre.nil
 | n::ns,us,h=>by
  rw[cv] at h;cases h with
  | cons r t=>
   obtain⟨k,rfl⟩:=r;exact IntsAre.cons n k (Vals.ints t)
theorem Vals.bls :∀{bs:List Bool} {us:List Value},Vals (bs.map V.bl) us->us=bs.map Value.bool
 | [],us,h=>by
  rw[pX] at h;cases h;rfl
 | b::bs,us,h=>by
  rw[cv] at h;cases h with
  | cons r t=>
   cases r;rw[Vals.bls t,cv]
def Vals.RU {a:Addr} {us:List Value} (r:Vals [V.ref a] us):us=[Value.ref a]:=by
 cases r with
 | cons r t=>
  cases t;cases r;rfl
section
variable {prog:Program} {w:World} {A:Around} {E:Value->Shared->Prop} {s:Shared} {l:Addr} {bq:List Value} {ns:List Int} {Q:Value->Shared->Prop}
def ZG (hh:A.handled=none) (hl:s.heap.IsList l bq.toArray) (hi:IntsAre bq ns)
  (h :∀h' tk t',(∀b o,s.heap.get? b=some o->h'.get? b=some o)->Q (.int ns.sum t') { s with heap:=h',toks:=tk }):wpAny (model prog w) A (call (.builtin "sum") [.ref l]) Q E s:=by
 obtain⟨xs,e⟩:=hi.allInts.items;have hn:numsOf (intItems xs).toList=ns:=by rw[<- e];exact hi.numsOf
 rw[nums_intItems] at hn;rw[e] at hl;refine PySem.sum_intListG hh hl λh' tk t' hk=>?_;have:=h h' tk t' hk;rw[preSum_eq,oJ (by simp),hn];exact this
def ahO (hh:A.handled=none) (hl:s.heap.IsList l bq.toArray) (hi:IntsAre bq ns) (cG:0 < ns.length)
  (h :∀h' tk M t',(∀b o,s.heap.get? b=some o->h'.get? b=some o)->M∈ns->(∀a,a∈ns->a<=M)->Q (.int M t') { s with heap:=h',toks:=tk }):wpAny (model prog w) A (call (.builtin "max") [.ref l]) Q E s:=by
 obtain⟨xs,e⟩:=hi.allInts.items;have hn:numsOf (intItems xs).toList=ns:=by rw[<- e];exact hi.numsOf
 rw[nums_intItems] at hn;subst hn;rw[e] at hl;have hsz:0 < xs.size:=by simpa using cG
 refine PySem.max_intList hh hl hsz λv h' tk hv hk=>?_;obtain⟨t,rfl⟩:=intItems_at hv;obtain⟨h1,h2⟩:=argBest_gt (numAt xs) (xs.size - 1);refine h h' tk _ t hk ?_ λa ha=>?_
 ·rw[numAt_eq];exact PySem.getD_mem (by rw[ai,kh];lia)
 obtain⟨j,hj,rfl⟩:=mem_getD ha;rw[ai,kh] at hj;rw[<- numAt_eq];exact h2 j (by lia)
def ZH (hh:A.handled=none) (hl:s.heap.IsList l bq.toArray) (hi:IntsAre bq ns) (cG:0 < ns.length)
  (h :∀h' tk M t',(∀b o,s.heap.get? b=some o->h'.get? b=some o)->M∈ns->(∀a,a∈ns->M<=a)->Q (.int M t') { s with heap:=h',toks:=tk }):wpAny (model prog w) A (call (.builtin "min") [.ref l]) Q E s:=by
 obtain⟨xs,e⟩:=hi.allInts.items;have hn:numsOf (intItems xs).toList=ns:=by rw[<- e];exact hi.numsOf
 rw[nums_intItems] at hn;subst hn;rw[e] at hl;have hsz:0 < xs.size:=by simpa using cG
 refine PySem.min_intList hh hl hsz λv h' tk hv hk=>?_;obtain⟨t,rfl⟩:=intItems_at hv;obtain⟨h1,h2⟩:=argBest_lt (numAt xs) (xs.size - 1);refine h h' tk _ t hk ?_ λa ha=>?_
 ·rw[numAt_eq];exact PySem.getD_mem (by rw[ai,kh];lia)
 obtain⟨j,hj,rfl⟩:=mem_getD ha;rw[ai,kh] at hj;rw[<- numAt_eq];exact h2 j (by lia)
end
section
variable {X:Cx}
inductive agX (K:ak) (vs:List V) (H:Hp) (Q:VK):Prop where
 | mk (a:Addr) (ns:List Int) (_:vs=[V.ref a]) (_:aO K H a (ns.map V.int)) (_:Q (.int ns.sum) H)
inductive agY (K:ak) (vs:List V) (H:Hp) (Q:VK):Prop where
 | mk (a:Addr) (ns:List Int) (_:vs=[V.ref a]) (_:aO K H a (ns.map V.int)) (_:0 < ns.length) (_ :∀m,m∈ns->(∀y,y∈ns->m<=y)->Q (.int m) H)
def aca (hc:X.calm=true):qm X (.builtin "sum") (agX X.K):=by
 intro af s σ H vs us Q I r h;obtain⟨a,ns,rfl,hs,q⟩:=h;obtain⟨bq,rv,hl,_⟩:=I.list hs;rw[Vals.RU r];exact ZG (I.ok.hd hc) hl.isList rv.ints λh' tk t' hk=>⟨.int _,H,I.kept hk,⟨_,Z⟩,q⟩
def acb (hc:X.calm=true):qm X (.builtin "min") (agY X.K):=by
 intro af s σ H vs us Q I r h;obtain⟨a,ns,rfl,hs,cG,q⟩:=h;obtain⟨bq,rv,hl,_⟩:=I.list hs;rw[Vals.RU r];exact ZH (I.ok.hd hc) hl.isList rv.ints cG λh' tk m t' hk h1 h2=>⟨.int _,H,I.kept hk,⟨_,Z⟩,q m h1 h2⟩
end
section
variable {X:Cx}
theorem PY {ys:List V} (f:ys.all qo=true) {j:Nat} {z:V} (h:ys[j]?=some z):qo z=true:=fZ.mp f z (aP h)
end
def M8 {prog:Program} {w:World} {A:Around} {E:Value->Shared->Prop} {s:Shared} {l:Addr} {items:Array Value} {Q:Value->Shared->Prop} (hl:s.heap.IsList l items)
  (h :∀s₂ : Shared,s₂ = { s with heap:=s.heap.push { cls:=.type "list_iterator",data:=.fields #[.ref l,.int 0 0] } }->
   (s₂.heap.IsListIter s.heap.objs.size l 0/\s₂.heap.IsList l items)->l≠s.heap.objs.size->Q (.ref s.heap.objs.size) s₂):wpAny (model prog w) A (pyIter (.ref l)) Q E s:=by
 have kE:l < s.heap.objs.size:=by obtain⟨_,e,_⟩:=hl;exact bH e
 exact wpAny_pyIter_list hl (h _ rfl ⟨⟨_,dt _ rfl,Z,Z⟩,hl.push _⟩ (dR kE))
def GU {prog:Program} {w:World} {A:Around} {bs:List Bool} {bq:List Value} (e:bq=bs.map Value.bool) :
  TruthOf prog w A (λi v=>bq.toArray[i]?=some v) (λi=>bs.getD i false):=λi v s Q E hv hq=>by
 have X8:bq[i]?=some v:=by simpa using hv
 rw[e,aA] at X8;obtain⟨b,hb,rfl⟩:=Option.map_eq_some_iff.mp X8;have hg:bs.getD i false=b:=by rw[bY,hb] <;> rfl
 have nM:Q (bs.getD i false) s:=hq;rw[hg] at nM;exact wpAny_truthy_bool nM
theorem any_range :∀bs:List Bool,(ba bs.length).any (λi=>bs.getD i false)=bs.any id
 | []=>rfl
 | b::bs=>by
  rw[aV,kN,gQ,List.any_map,gQ,<- any_range bs];all_goals rfl
theorem all_range :∀bs:List Bool,(ba bs.length).all (λi=>bs.getD i false)=bs.all id
 | []=>rfl
 | b::bs=>by
  rw[aV,kN,uF,Bb,uF,<- all_range bs];all_goals rfl
section
variable {X:Cx}
inductive agZ (K:ak) (vs:List V) (H:Hp) (Q:VK):Prop where
 | mk (a:Addr) (bs:List Bool) (_:vs=[V.ref a]) (_:aO K H a (bs.map V.bl)) (_:Q (.bl (bs.any id)) H)
inductive ag0 (K:ak) (vs:List V) (H:Hp) (Q:VK):Prop where
 | mk (a:Addr) (bs:List Bool) (_:vs=[V.ref a]) (_:aO K H a (bs.map V.bl)) (_:Q (.bl (bs.all id)) H)
def acd (hc:X.calm=true):qm X (.builtin "any") (agZ X.K):=by
 intro af s σ H vs us Q I r h;obtain⟨a,bs,rfl,hs,q⟩:=h;obtain⟨bq,rv,hl,_⟩:=I.list hs;rw[Vals.RU r];have hb:=rv.bls;refine call_any_walk (M8 hl.isList λs₂ e2 st cG=>?_);subst e2;refine⟨_,_,_,_,_,_,_,Z,Walks.list (A:=X.A.in1) (I.ok.hd hc) _ a cG bq.toArray,st,GU hb,λh' tk hk=>?_⟩;refine⟨.bl _,H,I.kept λb o eo=>hk b o (λDt=>?_) (bC _ eo),?_,q⟩
 ·rcases bS.mp Dt with e1 | Dt
  ·exact absurd (e1 ▸ bH eo) (iF _)
  cases Dt
 show Value.bool _=Value.bool _;rw[<- any_range,hb,bz,ai]
def ace (hc:X.calm=true):qm X (.builtin "all") (ag0 X.K):=by
 intro af s σ H vs us Q I r h;obtain⟨a,bs,rfl,hs,q⟩:=h;obtain⟨bq,rv,hl,_⟩:=I.list hs;rw[Vals.RU r];have hb:=rv.bls;refine call_all_walk (M8 hl.isList λs₂ e2 st cG=>?_);subst e2;refine⟨_,_,_,_,_,_,_,Z,Walks.list (A:=X.A.in1) (I.ok.hd hc) _ a cG bq.toArray,st,GU hb,λh' tk hk=>?_⟩;refine⟨.bl _,H,I.kept λb o eo=>hk b o (λDt=>?_) (bC _ eo),?_,q⟩
 ·rcases bS.mp Dt with e1 | Dt
  ·exact absurd (e1 ▸ bH eo) (iF _)
  cases Dt
 show Value.bool _=Value.bool _;rw[<- all_range,hb,bz,ai]
end
mutual
inductive Dp (K:ak) (H:Hp):V->PyData->Prop
 | cj:Dp K H .cj .none
 | bl (b:Bool):Dp K H (.bl b) (.bool b)
 | int (i:Int):Dp K H (.int i) (.int i)
 | str (x:Str):Dp K H (.str x) (.str x)
 | lst {a:Addr} {xs:List V} {ds:List PyData}:aO K H a xs->Du K H xs ds->Dp K H (.ref a) (.list ds)
 | tup {a:Addr} {xs:List V} {ds:List PyData}:gN K H a xs->Du K H xs ds->Dp K H (.ref a) (.tuple ds)
inductive Du (K:ak) (H:Hp):List V->List PyData->Prop
 | nil:Du K H [] []
 | cons {v:V} {vs:List V} {d:PyData} {ds:List PyData}:Dp K H v d->Du K H vs ds->Du K H (v::vs) (d::ds)
end
section
variable {X:Cx} {af:List (Addr × Obj)} {σ : St} {H:Hp} {s:Shared}
mutual
theorem Dp.reads (I:Inv X af σ H s) :∀(d:PyData) (v:V) (u:Value),Dp X.K H v d->RelV v u->∃as,Reads s.heap u d as
 | .none,_,_,h,r=>by
  cases h;cases r;exact⟨_,Reads.none⟩
 | .bool b,_,_,h,r=>by
  cases h;cases r;exact⟨_,Reads.bool b⟩
 | .int i,_,_,h,r=>by
  cases h;obtain⟨t,rfl⟩:=r;exact⟨_,Reads.int i t⟩
 | .str x,_,_,h,r=>by
  cases h;obtain⟨t,rfl⟩:=r;exact⟨_,Reads.str x t⟩
 | .list ds,_,_,h,r=>by
  cases h with
  | lst hs ha=>
   cases r;obtain⟨bq,rv,⟨o,n,ho,hc,_,hd⟩,_⟩:=I.list hs;obtain⟨as,hr⟩:=Dp.readsAll I ds _ bq ha rv;exact⟨_,Reads.list ho hc hd hr⟩
 | .tuple ds,_,_,h,r=>by
  cases h with
  | tup hs ha=>
   cases r;obtain⟨bq,rv,⟨o,ho,hc,n,hd⟩,_⟩:=I.tuple hs;obtain⟨as,hr⟩:=Dp.readsAll I ds _ bq ha rv;exact⟨_,Reads.tuple ho hc hd hr⟩
 | .dict _,_,_,h,_=>by cases h
theorem Dp.readsAll (I:Inv X af σ H s) :∀(ds:List PyData) (vs:List V) (us:List Value),Du X.K H vs ds->Vals vs us->∃as,ReadsAll s.heap us ds as
 | [],_,_,h,r=>by
  cases h;cases r;exact⟨_,ReadsAll.nil⟩
 | d::ds,_,_,h,r=>by
  cases h with
  | cons h1 h2=>
   cases r with
   | cons r1 r2=>
    obtain⟨as,q1⟩:=Dp.reads I d _ _ h1 r1;obtain⟨bs,q2⟩:=Dp.readsAll I ds _ _ h2 r2;exact⟨_,ReadsAll.cons q1 q2⟩
end
end
section
variable {X:Cx}
inductive V9 (K:ak) (x:V) (y:V) (H:Hp) (Q:VK):Prop where
 | mk d e (_:Dp K H x d) (_:Dp K H y e) (_:pY d=true) (_:pY e=true) (_:Q (.bl (zG d e)) H)
def TM (hu:X.A.units+64 < cLine):mU X (compareOp .Eq) (V9 X.K):=by
 intro af s σ H x y v u Q I rx ry h;obtain⟨d,e,hd,he,sd,se,q⟩:=h;obtain⟨as,r1⟩:=Dp.reads I d x v hd rx;obtain⟨bs,r2⟩:=Dp.reads I e y u he ry;exact SeqAt.compareEq_shaped r1 r2 sd se hu ⟨.bl _,H,I,Z,q⟩
end
abbrev TN (h:Heap) (c:Addr) (v:Option Value):Prop:=h.IsCell c v
def ag1 (scope sc:Scope):Scope:=
 { scope with names:=scope.names.map λ(n,k)=>if(k == .free&&sc.kind == .function&&sc.names.lookup n == some .cell) then(n,.cell) else(n,k) }
def gV (cells:List (Str × Addr)):List (Str × NameKind)->List (Str × Addr)->List (Str × Addr)
 | [],acc=>acc
 | (n,k)::r,acc=>if k == .free then gV cells r ((n,(cells.lookup n).getD 0)::acc) else gV cells r acc
theorem EX (env:Env) (f:Str × NameKind->List (Str × Addr)->Sem (ForInStep (List (Str × Addr))))
  (hf :∀n k c,f (n,k) c=if k == .free then(do let a <- cellOf env n;pure (.yield ((n,a)::c))) else pure (.yield c)) :
  ∀(names:List (Str × NameKind)) (acc:List (Str × Addr)),(∀y∈names,y.2=.free->∃c,env.cells.lookup y.1=some c)->forIn names acc f=pure (gV env.cells names acc)
 | [],acc,_=>by rw[List.forIn_nil];rfl
 | (n,k)::r,acc,h=>by
  rw[List.forIn_cons,hf];have ih:=λacc=>EX env f hf r acc λy hy=>h y (b7 _ hy);unfold gV;by_cases hk:(k == NameKind.free)=true
  ·rw[if_pos hk,if_pos hk]
   obtain⟨c,hc⟩:=h (n,k) dH (by simpa using hk);have e:cellOf env n=pure c:=by unfold cellOf;rw[hc]
   rw[e];have e2:(env.cells.lookup n).getD 0=c:=by rw[hc];rfl
   rw[e2];exact ih _
  rw[if_neg hk,if_neg hk];exact ih _
def RV {scope:Scope} {env:Env} (h :∀y∈scope.names,y.2=.free->∃c,env.cells.lookup y.1=some c):closureFor scope env=pure (gV env.cells scope.names []):=by
 simp only[closureFor];rw[EX env _ (λn k c=>rfl) scope.names [] h];rfl
theorem mem_lookup {α : Type} :∀{l:List (Str × α)} {n:Str} {c:α},(n,c)∈l->∃c',l.lookup n=some c'
 | (k,v)::r,n,c,h=>by
  rw[kC];cases hb:n == k with
  | true=>exact⟨_,Z⟩
  | false=>
   rcases bS.mp h with e | h
   ·cases e;simp at hb
   exact mem_lookup h
theorem xW :∀{names:List (Str × NameKind)} {acc:List (Str × Addr)} {n:Str} {c:Addr},(n,c)∈gV cells names acc->(n,c)∈acc\/((n,.free)∈names/\c=(cells.lookup n).getD 0)
 | [],_,_,_,h=>.inl h
 | (m,k)::r,acc,n,c,h=>by
  unfold gV at h;split at h
  ·rename_i hk
   have hk:k=.free:=by simpa using hk
   rcases xW h with h | ⟨h1,h2⟩
   ·rcases bS.mp h with e | h
    ·cases e;exact .inr ⟨hk ▸ dH,Z⟩
    exact .inl h
   exact .inr ⟨b7 _ h1,h2⟩
  rcases xW h with h | ⟨h1,h2⟩
  ·exact .inl h
  exact .inr ⟨b7 _ h1,h2⟩
theorem B1 :∀{names:List (Str × NameKind)} {acc:List (Str × Addr)} {p:Str × Addr},p∈acc->p∈gV cells names acc
 | [],_,_,h=>h
 | (m,k)::r,acc,p,h=>by
  unfold gV;split
  ·exact B1 (b7 _ h)
  exact B1 h
theorem B2 :∀{names:List (Str × NameKind)} {acc:List (Str × Addr)} {n:Str},(n,.free)∈names->(n,(cells.lookup n).getD 0)∈gV cells names acc
 | (m,k)::r,acc,n,h=>by
  unfold gV;rcases bS.mp h with e | h
  ·cases e
   exact B1 dH
  split
  ·exact B2 h
  exact B2 h
theorem yf :∀{names:List (Str × NameKind)} {h:Heap} {acc:List (Str × Addr)} {x:Str} {c:Addr},(x,c)∈cellsFrom h.objs.size names acc->
  (x,c)∈acc\/((x,.cell)∈names/\h.objs.size<=c/\TN (pushCells h names) c none)
 | [],_,_,_,_,h=>.inl h
 | (n,k)::r,h,acc,x,c,hm=>by
  unfold cellsFrom at hm;unfold pushCells;split at hm
  ·rename_i hk
   rw[if_pos hk];have hk:k=.cell:=by simpa using hk
   rw[<- gx h { cls:=.type "cell",data:=.cell none }] at hm;rcases yf hm with hm | ⟨h1,h2,h3⟩
   ·rcases bS.mp hm with e | hm
    ·cases e
     exact .inr ⟨hk ▸ dH,aN _,_,pushCells_keeps r _ _ _ (dt _ rfl),Z⟩
    exact .inl hm
   rw[gx] at h2;exact .inr ⟨b7 _ h1,tX h2,h3⟩
  rename_i hk;rw[if_neg hk];rcases yf hm with hm | ⟨h1,h2,h3⟩
  ·exact .inl hm
  exact .inr ⟨b7 _ h1,h2,h3⟩
theorem Bt :∀{names:List (Str × NameKind)} {n:Nat} {acc:List (Str × Addr)} {p:Str × Addr},p∈acc->p∈cellsFrom n names acc
 | [],_,_,_,h=>h
 | (m,k)::r,n,acc,p,h=>by
  unfold cellsFrom;split
  ·exact Bt (b7 _ h)
  exact Bt h
theorem EY :∀{names:List (Str × NameKind)} {n:Nat} {acc:List (Str × Addr)} {x:Str},(x,.cell)∈names->∃c,(x,c)∈cellsFrom n names acc
 | (m,k)::r,n,acc,x,h=>by
  unfold cellsFrom;rcases bS.mp h with e | h
  ·cases e
   exact⟨n,Bt dH⟩
  split
  ·exact EY h
  exact EY h
theorem EZ :∀{names:List (Str × NameKind)} {h:Heap} {acc:List (Str × Addr)} {x y:Str} {c:Addr},(∀p∈acc,p.2 < h.objs.size)->(∀x y c,(x,c)∈acc->(y,c)∈acc->x=y)->
  (x,c)∈cellsFrom h.objs.size names acc->(y,c)∈cellsFrom h.objs.size names acc->x=y
 | [],_,_,_,_,_,_,hi,h1,h2=>hi _ _ _ h1 h2
 | (n,k)::r,h,acc,x,y,c,hl,hi,h1,h2=>by
  unfold cellsFrom at h1 h2;split at h1
  ·rename_i hk
   rw[if_pos hk] at h2;rw[<- gx h { cls:=.type "cell",data:=.cell none }] at h1 h2;refine EZ (h:=h.push _) (λp hp=>?_) (λx y c a b=>?_) h1 h2
   ·rw[gx]
    rcases bS.mp hp with rfl | hp
    ·exact jo _
    exact zi (hl p hp)
   rcases bS.mp a with e | a <;> rcases bS.mp b with e' | b
   ·cases e;cases e';rfl
   ·cases e;exact absurd (hl _ b) (iF _)
   ·cases e';exact absurd (hl _ a) (iF _)
   exact hi _ _ _ a b
  rename_i hk;rw[if_neg hk] at h2;exact EZ hl hi h1 h2
def O6 {M:Model} {A:Around} {E:Value->Shared->Prop} {s:Shared} {scope:Scope} {globals:Addr} {closure:List (Str × Addr)} {qual:Str} {func:Option Addr} {code:Value} {around:Env} {builtins:Addr} {Q:Env->Shared->Prop}
  (h:Q (newEnv scope s.heap.objs.size globals (cellsFrom (s.heap.objs.size+1) scope.names closure) qual func code (some around) builtins)
   { s with heap:=pushCells (s.heap.push { cls:=.type "dict",data:=.dict #[] }) scope.names }) :
  wpAny M A (newFunctionEnv scope globals closure [] qual func code (some around) builtins) Q E s:=by
 simp only[newFunctionEnv,Option.isSome_some,if_true];refine wpAny_bind (wpAny_alloc ?_);refine wpAny_bind (wpAny_layCells _ (λn k c=>rfl) scope.names closure _ _ ?_);rw[show({ s with heap:=s.heap.push { cls:=.type "dict",data:=.dict #[] } }:Shared).heap.objs.size=s.heap.objs.size+1 from gx ..];rw[List.forIn_nil];exact wpAny_bind (wpAny_pure (wpAny_pure h))
theorem B3 {sc:Scope} :∀{names:List (Str × NameKind)} {x:Str} {k:NameKind},
  (names.map λ(n,k)=>if(k == NameKind.free&&sc.kind == .function&&sc.names.lookup n == some .cell) then(n,NameKind.cell) else(n,k)).lookup x=some k->
  ∃k',names.lookup x=some k'/\(k=k'\/(k'=.free/\k=.cell))
 | [],_,_,h=>by simp at h
 | (n,k₀)::r,x,k,h=>by
  have ih:=@B3 sc r x k;have h':kO x ((if(k₀ == NameKind.free&&sc.kind == .function&&sc.names.lookup n == some .cell)=true then(n,NameKind.cell) else(n,k₀))::(r.map _))=some k:=h;cases hx:x == n with
  | true=>
   simp only[kC,hx];by_cases hc:(k₀ == NameKind.free&&sc.kind == .function&&sc.names.lookup n == some .cell)=true
   ·rw[if_pos hc] at h'
    simp only[kC,hx] at h';cases h';simp only[aB,beq_iff_eq] at hc;exact⟨k₀,Z,.inr ⟨hc.1.1,Z⟩⟩
   rw[if_neg hc] at h';simp only[kC,hx] at h';cases h';exact⟨_,Z,.inl rfl⟩
  | false=>
   simp only[kC,hx];by_cases hc:(k₀ == NameKind.free&&sc.kind == .function&&sc.names.lookup n == some .cell)=true
   ·rw[if_pos hc] at h'
    simp only[kC,hx] at h';exact ih h'
   rw[if_neg hc] at h';simp only[kC,hx] at h';exact ih h'
structure Dv (N:List Str) (sc scope:Scope) (own:List (Str × Nat)):Prop where
 kind:scope.kind=.function
 uniq :∀y∈scope.names,scope.names.lookup y.1=some y.2
 ix :∀p∈own,N[p.2]?=some p.1
 free :∀y∈scope.names,y.2=.free->sc.names.lookup y.1=some .cell\/sc.names.lookup y.1=some .free
 own :∀y∈scope.names,y.2=.local\/y.2=.cell->y.1∈own.map (·.1)\/y.1∉N
def fg (σ : St):List Nat->St
 | []=>σ
 | v::vs=>(fg σ vs).set v none
theorem B4 (σ : St) :∀vs:List Nat,(fg σ vs).length = σ.length
 | []=>rfl
 | v::vs=>by unfold fg;rw[wR,B4 σ vs]
theorem E1 {σ : St} {i:Nat} {x:V} :∀{vs:List Nat},(fg σ vs)[i]?=some (some x)->σ[i]?=some (some x)/\i∉vs
 | [],h=>⟨h,by simp⟩
 | v::vs,h=>by
  unfold fg at h;by_cases hi:v=i
  ·subst hi
   by_cases hv:v < (fg σ vs).length
   ·rw[uo hv] at h;cases h
   rw[dG (by simpa using hv)] at h;cases h
  rw[wU hi] at h;obtain⟨h1,h2⟩:=E1 h;exact⟨h1,by simp only[bS,not_or];exact⟨λe=>hi e.symm,h2⟩⟩
abbrev Cx.p6 (X:Cx) (s:Shared) (H:Hp) (scope:Scope) (jA:Env) (fp:List Addr):Cx:={ X with mH:=s,Py:=H,env:=jA,outer:=X.stack,ex:=fp,fn:=λx=>scope.names.lookup x == some .cell,pn:=[],xe:=λ_ _=>False }
section
variable {X:Cx} {af:List (Addr × Obj)} {σ : St} {H:Hp} {s:Shared}
def O7 {scope:Scope} {own:List (Str × Nat)} {fp:List Addr} (I:Inv X af σ H s) (ok:Dv X.N X.env.scope scope own) (hN:X.N.Nodup) (IV :∀b∈fp,BZ X af H b/\b < s.heap.objs.size) :
  Inv (X.p6 s H scope (compEnvC scope (cellsFrom (s.heap.objs.size+1) scope.names (gV X.env.cells scope.names [])) s.heap.objs.size X.env) fp) [] (fg σ (own.map (·.2))) H { s with heap:=pushCells (s.heap.push { cls:=.type "dict",data:=.dict #[] }) scope.names }:=by
 have zo :∀y∈scope.names,y.2=.free->∃c,X.env.cells.lookup y.1=some c:=λy hy e=>by
  rcases ok.free y hy e with k | k
  ·exact I.ok.has _ (.inl k)
  exact I.ok.has _ (.inr k)
 generalize IW:compEnvC scope (cellsFrom (s.heap.objs.size+1) scope.names (gV X.env.cells scope.names [])) s.heap.objs.size X.env=jA;have kp :∀b o,s.heap.get? b=some o->(pushCells (s.heap.push { cls:=.type "dict",data:=.dict #[] }) scope.names).get? b=some o:=λb o e=>pushCells_keeps _ _ _ _ (bC _ e);have hL:jA.locals=s.heap.objs.size:=by rw[<- IW];rfl
 have Lc:jA.cells=cellsFrom (s.heap.objs.size+1) scope.names (gV X.env.cells scope.names []):=by rw[<- IW];rfl
 have PZ:jA.scope=ag1 scope X.env.scope:=by rw[<- IW];rfl
 rw[<- gx s.heap { cls:=.type "dict",data:=.dict #[] }] at Lc;have cm :∀{y c},(y,c)∈gV X.env.cells scope.names []->X.env.cells.lookup y=some c/\c < s.heap.objs.size:=λ{y c} hm=>by
  rcases xW hm with hm | ⟨h1,rfl⟩
  ·cases hm
  obtain⟨c,hc⟩:=zo _ h1 rfl;rw[hc];obtain⟨w,z⟩:=I.cell _ _ hc;exact⟨Z,z.lt⟩
 have mem :∀{y c},jA.cells.lookup y=some c->(X.env.cells.lookup y=some c/\c < s.heap.objs.size)\/(s.heap.objs.size+1<=c/\TN (pushCells (s.heap.push { cls:=.type "dict",data:=.dict #[] }) scope.names) c none):=λ{y c} e=>by
  rw[Lc] at e;rcases yf (PySem.mem_of_lookup e) with hm | ⟨_,h2,h3⟩
  ·exact .inl (cm hm)
  rw[gx] at h2;exact .inr ⟨h2,h3⟩
 have look :∀{y},scope.names.lookup y=some .free->∃c,jA.cells.lookup y=some c/\X.env.cells.lookup y=some c:=λ{y} hl=>by
  have hy:(y,NameKind.free)∈scope.names:=PySem.mem_of_lookup hl;obtain⟨c',e'⟩:=mem_lookup (Bt (names:=scope.names) (n:=(s.heap.push { cls:=.type "dict",data:=.dict #[] }).objs.size) (B2 (cells:=X.env.cells) (acc:=[]) hy));rw[<- Lc] at e';refine⟨c',e',?_⟩;rw[Lc] at e';rcases yf (PySem.mem_of_lookup e') with hm | ⟨h1,_,_⟩
  ·exact(cm hm).1
  have:=ok.uniq _ h1;rw[hl] at this;cases this
 have okB:(X.p6 s H scope jA fp).Ok:=by
  refine⟨I.ok.mod,by show jA.scope.kind=_;rw[PZ];exact ok.kind,by show jA.globals=_;rw[<- IW];exact I.ok.glob,by show jA.builtins=_;rw[<- IW];exact I.ok.blt,by show s.heap.objs.size<=jA.locals;rw[hL];exact aN _,
   λy z c e1 e2=>?_,λy hy=>?_,λy c z e=>?_,I.ok.hd,I.ok.frames,.inl rfl,λb hb=>⟨?_,λy c e z=>?_⟩,I.bs,c8 I.ok.GQ I.sz,λb o e hb=>?_,λb hb z=>?_,I.stack,I.zH⟩
  ·have e1:jA.cells.lookup y=some c:=e1
   have e2:jA.cells.lookup z=some c:=e2;rw[Lc] at e1 e2;refine EZ (λp hp=>?_) (λy z c a b=>I.ok.inj y z c (cm a).1 (cm b).1) (PySem.mem_of_lookup e1) (PySem.mem_of_lookup e2);rw[gx];exact zi (cm (y:=p.1) (c:=p.2) hp).2
  ·show∃c,jA.cells.lookup y=some c
   have key :∀k,jA.kindOf y=some k->(k=.cell\/k=.free)->∃c,jA.cells.lookup y=some c:=λk hk ub=>by
    unfold Env.kindOf at hk;rw[PZ] at hk;obtain⟨k',e,r⟩:=B3 hk;have:k'=.cell\/k'=.free:=by
     rcases r with rfl | ⟨rfl,_⟩
     ·exact ub
     exact .inr rfl
    rcases this with rfl | rfl
    ·obtain⟨c,hm⟩:=EY (n:=(s.heap.push { cls:=.type "dict",data:=.dict #[] }).objs.size) (acc:=gV X.env.cells scope.names []) (PySem.mem_of_lookup e)
     obtain⟨c',e'⟩:=mem_lookup hm;exact⟨c',by rw[Lc];exact e'⟩
    obtain⟨c,h1,_⟩:=look e;exact⟨c,h1⟩
   rcases hy with hy | hy
   ·exact key _ hy (.inl rfl)
   exact key _ hy (.inr rfl)
  ·have z:(scope.names.lookup y == some NameKind.cell)=true:=z
   have z:scope.names.lookup y=some .cell:=by simpa using z
   have e:jA.cells.lookup y=some c:=e;rw[Lc] at e;rcases yf (PySem.mem_of_lookup e) with hm | ⟨_,h2,_⟩
   ·rcases xW hm with hm | ⟨h1,_⟩
    ·cases hm
    have q:=ok.uniq _ h1;rw[z] at q;cases q
   rw[gx] at h2;exact tX h2
  ·show b≠jA.locals
   rw[hL];exact dR (IV b hb).2
  ·have e:jA.cells.lookup y=some c:=e
   rcases mem e with⟨h1,_⟩ | ⟨h1,_⟩
   ·exact(IV b hb).1.2.2.2.2.1 y c h1 z
   have h2:s.heap.objs.size+1<=b:=by rw[<- z];exact h1
   exact absurd (b6 (IV b hb).2 (tX h2)) (iF _)
  ·rcases(IV b hb).1.2.2.2.1 with z | z
   ·exact I.ok.ML b o e z
   exact absurd (b6 (bH e) (c8 I.ok.GQ z)) (iF _)
  rcases bS.mp (I.IL b z) with z | z
  ·exact(IV b hb).1.2.1 z
  exact(IV b hb).1.2.2.1 z
 refine⟨okB,Z,I.bare,Un.kept kp,⟨λ_=>none,?_,λi y av e1 e2 e3=>?_⟩,λy c e=>?_,?_,λy c e=>?_,λp hp=>?_,I.cM.kept kp,by rw[B4];exact I.len⟩
 ·show Rv _ jA.locals _
  rw[hL];exact Rv.keeps (Rv.new ..) λb o e=>pushCells_keeps _ _ _ _ e
 ·obtain⟨e2,cG⟩:=E1 e2
  have mV:scope.names.lookup y=some .free/\(jA.kindOf y=some .cell\/jA.kindOf y=some .free):=by
   have key :∀k,jA.scope.names.lookup y=some k->k=.local\/k=.cell\/k=.free->scope.names.lookup y=some .free/\(jA.kindOf y=some .cell\/jA.kindOf y=some .free):=λk hk ub=>by
    have TQ:=hk;rw[PZ] at hk;obtain⟨k',e,r⟩:=B3 hk;have no:¬ (k'=.local\/k'=.cell):=λhh=>by
     rcases ok.own _ (PySem.mem_of_lookup e) hh with e' | e'
     ·obtain⟨p,hp,hpy⟩:=bX.mp e'
      have e3:=ok.ix p hp;have:p.1=y:=hpy;rw[this] at e3;exact cG (bX.mpr ⟨p,hp,HG hN e3 e1⟩)
     exact e' (aP e1)
    rcases r with rfl | ⟨rfl,rfl⟩
    ·rcases ub with rfl | rfl | rfl
     ·exact absurd (.inl rfl) no
     ·exact absurd (.inr rfl) no
     exact⟨e,.inr TQ⟩
    exact⟨e,.inl TQ⟩
   have e3:Pz jA.scope y:=e3;rcases e3 with e3 | e3 | e3
   ·exact key _ e3 (.inl rfl)
   ·exact key _ e3 (.inr (.inl rfl))
   exact key _ e3 (.inr (.inr rfl))
  obtain⟨m,hn,hl⟩:=I.loc;have ag2:Pz X.env.scope y:=(ok.free _ (PySem.mem_of_lookup mV.1) rfl).elim (λk=>.inr (.inl k)) (λk=>.inr (.inr k));obtain⟨w,r,q⟩:=hl i y av e1 e2 ag2;refine⟨w,r,.inr ⟨mV.2,?_⟩⟩;obtain⟨c,h1,h2⟩:=look mV.1;rcases q with⟨k,_⟩ | ⟨_,c',e',z⟩
  ·have k:X.env.scope.names.lookup y=some .local:=k
   rcases ok.free _ (PySem.mem_of_lookup mV.1) rfl with k' | k' <;> rw[show X.env.scope.names.lookup y=_ from k'] at k <;> cases k
  rw[h2] at e';cases e';exact⟨c,h1,z.keeps kp⟩
 ·have e:jA.cells.lookup y=some c:=e
  rcases mem e with⟨h1,_⟩ | ⟨_,z⟩
  ·obtain⟨w,z⟩:=I.cell y c h1
   exact⟨w,z.keeps kp⟩
  exact⟨_,z⟩
 ·show H jA.locals=none
  rw[hL];exact I.cM.fresh (aN _)
 ·have e:jA.cells.lookup y=some c:=e
  rcases mem e with⟨h1,_⟩ | ⟨h1,_⟩
  ·exact I.oU y c h1
  exact I.cM.fresh (tX h1)
 exact absurd (show p∈([]:List (Addr × Obj))++[] from hp) (by simp)
def acf {E:Value->Shared->Prop} {D:Addr} {xs:List V} {y:V} {v:Value} {Q:Value->Shared->Prop} (I:Inv X af σ H s) (hD:H D=some (.lst xs)) (hz:xs.length < sizeLine) (r:RelV y v)
  (h :∀s',Inv X af σ (aX H D (.lst (xs++[y]))) s'->Q .none s'):wpAny (model X.prog X.w) X.A (call (.builtin "list.append") [.ref D,v]) Q E s:=by
 obtain⟨hz',bq,n,ri,e⟩:=I.cM D _ hD;have hl:=ri.length;refine append_at (hsz:=by rw[bz];lia) e λh' sb Bn=>?_;refine h { s with heap:=h' } (I.write (t':=s.toks) (by rw[hD];trivial) (.inl rfl) (λb u hb q=>(sb.2 b hb).trans q) ⟨_,Bn⟩ ⟨by rw[ay];exact hz,bq++[v],n+1,ri.append (.cons r .nil),?_⟩);rw[Bn];simp
def Ld (X:Cx) (ifs:List Expr) (t:TT):Prop:=
 ∀(af:List (Addr × Obj)) (s:Shared) (σ : St) (H:Hp) (Q:Bool->Hp->Prop),Inv X af σ H s->t σ H Q->
  wpAny (model X.prog X.w) X.A (forIn ifs true λc r=>if r=true then do let ok <- isTrue c X.env (eval c X.env);pure (ForInStep.yield ok) else pure (ForInStep.yield r)) (TP X af σ Q) X.xe s
def HL:TT:=λ_ H Q=>Q true H
theorem ZI:Ld X [] HL:=λ_ _ _ H _ I h=>wpAny_tests_nil ⟨H,I,h⟩
theorem ZJ (h:PT X c t):Ld X [c] t:=λaf s σ H Q I hw=>wpAny_tests_one (h af s σ H Q I hw)
end
theorem Kf {α : Type} {t:Sem α} {Q Q':α->Shared->Prop} {M:Model} {A:Around} {E:Value->Shared->Prop} {s:Shared} (h:wpAny M A t Q (λ_ _=>False) s) (hQ :∀a s,Q a s->Q' a s):wpAny M A t Q' E s:=wpAny_mono h hQ λ_ _ z=>False.elim z
def M9 {prog:Program} {w:World} {A:Around} {R:Result->Shared->Prop} {s:Shared} {vP target iter:Expr} {ifs:List Expr} {scope:Scope} {pos:Pos} {it acc:Value} {env:Env} (I:Nat->Shared->Prop)
  (turn :∀n s,I n s->wpAny (model prog w) A (pyNext it) (λr s₁=>match r with
   | none=>R (.ok .next) s₁
   | some v=>wpAny (model prog w) A (letOwnedTupleGo target it v) (λ_ s₁'=>wpAny (model prog w) A (assign target env v) (λ_ s₂=>
     wpAny (model prog w) A (forIn ifs true λc r=>if r=true then do let ok <- isTrue c env (eval c env);pure (ForInStep.yield ok) else pure (ForInStep.yield r)) (λok s₃=>
      if ok=true then wpAny (model prog w) A (eval vP env) (λx s₄=>
       wpAny (model prog w) A (call (.builtin "list.append") [acc,x]) (λ_ s₅=>∃m,m < n/\I m s₅) (notedBy (model prog w) A env λe s'=>R (.error e) s') s₄) (notedBy (model prog w) A env λe s'=>R (.error e) s') s₃
      else∃m,m < n/\I m s₃) (notedBy (model prog w) A env λe s'=>R (.error e) s') s₂) (notedBy (model prog w) A env λe s'=>R (.error e) s') s₁') (notedBy (model prog w) A env λe s'=>R (.error e) s') s₁) (notedBy (model prog w) A env λe s'=>R (.error e) s') s)
  (n:Nat) (h:I n s) :
  codeAny (model prog w) A (.compLoop (.ListComp vP [⟨target,iter,ifs,0⟩] scope pos) 0 it acc env) R s:=by
 refine codeAny_loop rfl I (λn s hI=>?_) n h;show wpAny _ A ((compTurn (.ListComp vP [⟨target,iter,ifs,0⟩] scope pos) 0 it acc env).onRaise (λx=>do noteFrame x env;theTreesLotGoes x)) _ _ s;refine wpAny_noted ?_;rw[compTurn_list];refine wpAny_bind (wpAny_standAt (wpAny_bind (wpAny_mono (turn n s hI) (λr s₁ h₁=>?_) λ_ _ h'=>h')));cases r with
 | none=>exact wpAny_pure h₁
 | some v=>
  refine wpAny_bind (wpAny_mono h₁ (λ_ s₁' h₁'=>?_) λ_ _ h'=>h');refine wpAny_bind (wpAny_mono h₁' (λ_ s₂ h₂=>wpAny_bind (wpAny_mono h₂ (λok s₃ h₃=>?_) λ_ _ h'=>h')) λ_ _ h'=>h');cases ok with
  | false=>exact wpAny_pure ⟨Z,h₃⟩
  | true=>
   exact wpAny_bind (wpAny_bind (wpAny_mono h₃ (λx s₄ h₄=>wpAny_bind (wpAny_mono h₄ (λ_ s₅ h₅=>wpAny_pure (wpAny_pure ⟨Z,h₅⟩)) λ_ _ h'=>h')) λ_ _ h'=>h'))
section
variable {X:Cx}
def P0 (wi:TI) (g:TG) (tt:TT) (te:TE) (vs:List Nat):TE:=λσ H Q=>wi σ H λJ H1=>∀D,H1 D=none->∃W:Nat->Nat->Hp->Prop,(∃m,W 0 m (aX H1 D (.lst [])))/\∀i m H,W i m H->
 (J.stop i H/\Q (.ref D) H)\/(J.go i H/\∃Nx:Hp->Prop,(∀H',Nx H'->∃m',m' < m/\W (i+1) m' H')/\∀x H',J.ET i H x H'->g x (fg σ vs) H' λσ2 H2=>fg σ2 vs=fg σ vs/\tt σ2 H2 λb H3=>
  if b=true then te σ2 H3 λy H4=>∃acc,H4 D=some (.lst acc)/\acc.length < sizeLine/\Nx (aX H4 D (.lst (acc++[y]))) else Nx H3)
def P1 {af:List (Addr × Obj)} {s:Shared} {σ : St} {H:Hp} {Q:VK} {vP tg iter:Expr} {ifs:List Expr} {scope:Scope} {own:List (Str × Nat)} {pos jz:Pos} {wi:TI} {g:TG} {tt:TT} {te:TE} {use:Option (Value->Sem Unit)} {Qf:Value->Shared->Prop}
  (hc:X.calm=true) (hN:X.N.Nodup) (I:Inv X af σ H s) (hi:PI X tg iter wi) (ok:Dv X.N X.env.scope scope own)
  (hg :∀(s:Shared) (H:Hp) (C:Addr) (cl:List (Str × Addr)) (fp:List Addr),PG (X.p6 s H scope (compEnvC scope cl C X.env) fp) tg g) (ht :∀(s:Shared) (H:Hp) (C:Addr) (cl:List (Str × Addr)) (fp:List Addr),Ld (X.p6 s H scope (compEnvC scope cl C X.env) fp) ifs tt)
  (he :∀(s:Shared) (H:Hp) (C:Addr) (cl:List (Str × Addr)) (fp:List Addr),PE (X.p6 s H scope (compEnvC scope cl C X.env) fp) vP te) (hs :∀x,foldedSetIterable iter X.env x=pure x)
  (h:P0 wi g tt te (own.map (·.2)) σ H Q)
  (hRR :∀D C s' m H',Inv X af σ H' s'->Q (.ref D) H'->s'.heap.Ns C m->BZ X af H' C->compPost (model X.prog X.w) X.A X.xe use Qf (.ref D) C (.ok .next) s') :
  wpAny (model X.prog X.w) X.A (comprehension (.ListComp vP [⟨tg,iter,ifs,0⟩] scope pos) scope X.env jz (newList []) false (eval iter X.env) use) Qf X.xe s:=by
 have zo :∀y∈scope.names,y.2=.free->∃c,X.env.cells.lookup y.1=some c:=λy hy e=>by
  rcases ok.free y hy e with k | k
  ·exact I.ok.has _ (.inl k)
  exact I.ok.has _ (.inr k)
 refine wpAny_comprehension_free (use:=use) rfl hs (RV zo) ok.kind (λy hy e=>by rw[ok.uniq y hy,e])
  (cX (hi af s σ H _ I h) λxv s1 hx=>cX hx λitv s2 h2=>?_)
 obtain⟨it,fp,tn,J,H2,e,I2,T,PH,f2,q⟩:=h2;subst e;refine wpAny_newObj_type (O6 ?_) (fB 0);generalize hD:s2.heap.objs.size=D;have Yg:H2 D=none:=I2.cM.fresh (Ba hD);obtain⟨W,⟨m0,w0⟩,turn⟩:=q D Yg;generalize hs3:({ s2 with heap:=s2.heap.push { cls:=.type "list",data:=.seq ([]:List Value).toArray } }:Shared)=s3;have I3:Inv X af σ (aX H2 D (.lst [])) s3:=by
  rw[<- hs3];refine I2.laid (t':=s2.toks) (λb o e=>bC _ e) (Ba hD) ⟨bK _,[],0,.nil,?_⟩;rw[<- hD];exact dt _ rfl
 have h3:s3.heap=s2.heap.push { cls:=.type "list",data:=.seq ([]:List Value).toArray }:=by rw[<- hs3]
 have sz :∀b∈fp,b < s2.heap.objs.size:=λb hb=>by
  obtain⟨o,e,_⟩:=T.obj _ _ PH b hb;exact bH e
 have f3 :∀b∈fp,BZ X af (aX H2 D (.lst [])) b/\b < s3.heap.objs.size:=λb hb=>by
  have kE:=sz b hb;refine⟨⟨?_,(f2 b hb).2⟩,by rw[h3,gx];exact zi kE⟩;rw[au (by rw[<- hD];exact dR kE)];exact(f2 b hb).1
 have MT:tn 0 s3.heap:=T.keep _ _ _ PH λb _ o e=>by rw[h3];exact bC _ e
 have I4:=O7 I3 ok hN f3;have pg:=hg s3 (aX H2 D (.lst [])) s3.heap.objs.size (cellsFrom (s3.heap.objs.size+1) scope.names (gV X.env.cells scope.names [])) fp;have pt:=ht s3 (aX H2 D (.lst [])) s3.heap.objs.size (cellsFrom (s3.heap.objs.size+1) scope.names (gV X.env.cells scope.names [])) fp;have pe:=he s3 (aX H2 D (.lst [])) s3.heap.objs.size (cellsFrom (s3.heap.objs.size+1) scope.names (gV X.env.cells scope.names [])) fp;show codeAny _ _ (.compStart (.ListComp vP [⟨tg,iter,ifs,0⟩] scope pos) 0 (.ref it) (.ref D) (compEnvC scope (cellsFrom (s3.heap.objs.size+1) scope.names (gV X.env.cells scope.names [])) s3.heap.objs.size X.env)) (compPost (model X.prog X.w) X.A X.xe use Qf (.ref D) s3.heap.objs.size) { s3 with heap:=pushCells (s3.heap.push { cls:=.type "dict",data:=.dict #[] }) scope.names };have nfp :∀b∈fp,(aX H2 D (.lst [])) b=none:=λb hb=>(f3 b hb).1.1;generalize hce:compEnvC scope (cellsFrom (s3.heap.objs.size+1) scope.names (gV X.env.cells scope.names [])) s3.heap.objs.size X.env=ce at I4 pg pt pe ⊢;have cL:ce.locals=s3.heap.objs.size:=by subst hce;rfl
 generalize hH3:aX H2 D (.lst [])=H3 at I3 I4 pg pt pe w0 nfp f3;generalize hs4:({ s3 with heap:=pushCells (s3.heap.push { cls:=.type "dict",data:=.dict #[] }) scope.names }:Shared)=s4 at I4 ⊢;have st4:tn 0 s4.heap:=T.keep _ _ _ MT λb _ o e=>by rw[<- hs4];exact pushCells_keeps _ _ _ _ (bC _ e)
 have HI :∀{σ':St} {H':Hp} {s':Shared},Inv (X.p6 s3 H3 scope ce fp) [] σ' H' s'->(∀b∈fp,H' b=none)->∀b∈fp,BZ (X.p6 s3 H3 scope ce fp) [] H' b:=λ{σ' H' s'} I' hn b hb=>
  ⟨hn b hb,(I'.ok.XT b hb).1,I'.ok.MM b hb,.inl hb,λx c e=>(I'.ok.XT b hb).2 x c e,λp hp=>absurd (show p∈([]:List (Addr × Obj))++[] from hp) (by simp)⟩
 have loop:codeAny (model X.prog X.w) X.A (.compLoop (.ListComp vP [⟨tg,iter,ifs,0⟩] scope pos) 0 (.ref it) (.ref D) ce) (compPost (model X.prog X.w) X.A X.xe use Qf (.ref D) s3.heap.objs.size) s4:=by
  refine M9 (λn s'=>∃i H',Inv (X.p6 s3 H3 scope ce fp) [] (fg σ (own.map (·.2))) H' s'/\tn i s'.heap/\(∀b∈fp,H' b=none)/\W i n H') ?_ m0 ⟨0,H3,I4,st4,nfp,w0⟩;rintro n s5 ⟨i,H5,I5,PJ,n5,w5⟩;rcases turn i n H5 w5 with⟨stop,qq⟩ | ⟨go,Nx,hNx,step⟩
  ·have td:=T.done (X.p6 s3 H3 scope ce fp) rfl rfl rfl hc i [] s5 _ H5 (λ_ _=>False) I5 (HI I5 n5) PJ stop
   refine Kf td λr s6 ⟨hr,I6⟩=>?_;subst hr;have I7:Inv X af σ H5 s6:=I3.Di (ch:=fp) I6.os I6.aS I6.cM I6.bare λb hb=>⟨(f3 b hb).1.2.2.2.1,(f3 b hb).1.2.1,(f3 b hb).1.2.2.2.2.1,(f3 b hb).1.2.2.2.2.2⟩
   have nC:H5 s3.heap.objs.size=none:=by
    have z:H5 ce.locals=none:=I6.free;rw[cL] at z;exact z
   obtain⟨m,hn,_⟩:=I6.loc;have hn:s6.heap.Ns ce.locals m:=hn;rw[cL] at hn;exact hRR D s3.heap.objs.size s6 m H5 I7 qq hn (I3.RF (aN _) nC)
  have ti:=T.item (X.p6 s3 H3 scope ce fp) rfl rfl rfl hc i [] s5 _ H5 (λ_ _=>False) I5 (HI I5 n5) PJ go;refine Kf ti λr s6 ⟨u,hr,h6⟩=>?_;subst hr;refine Kf h6 λ_ s7 ⟨x,H7,I7,r7,y7,st7,n7⟩=>?_;have I7':=I7.pinned (HI I7 n7) (T.obj _ _ st7);refine Kf (pg _ s7 _ H7 x u _ I7' r7 (step x H7 y7)) λ_ s8 ⟨σ8,H8,I8,hw8,q8⟩=>?_;refine Kf (pt _ s8 σ8 H8 _ I8 q8) λb s9 ⟨H9,I9,q9⟩=>?_;have di :∀{s':Shared} {H':Hp},Inv (X.p6 s3 H3 scope ce fp) ([]++EU fp s7.heap) σ8 H' s'->Nx H'->∃m,m < n/\∃i H',Inv (X.p6 s3 H3 scope ce fp) [] (fg σ (own.map (·.2))) H' s'/\tn i s'.heap/\(∀b∈fp,H' b=none)/\W i m H':=λ{s' H'} I' nx=>by
   obtain⟨m',hm,w'⟩:=hNx H' nx;have ach :∀b∈fp,∀o,s7.heap.get? b=some o->s'.heap.get? b=some o/\H' b=none:=λb hb o e=>
    let z:=I'.pin (b,o) (gw _ (gw _ (Dl hb e)))
    ⟨z.1,z.2.1⟩
   have hl:(fg σ (own.map (·.2))).length = σ8.length:=by rw[<- hw8,B4]
   refine⟨m',hm,i+1,H',(I'.Dm (af:=[])).weak hl (λj v e=>?_),T.keep _ _ _ st7 λb hb o e=>(ach b hb o e).1,λb hb=>?_,w'⟩
   ·rw[<- hw8] at e
    exact(E1 e).1
   obtain⟨o,e,_⟩:=T.obj _ _ st7 b hb;exact(ach b hb o e).2
  cases b with
  | false=>
   simp only[Bool.false_eq_true,if_false] at q9 ⊢;exact di I9 q9
  | true=>
   simp only[if_true] at q9 ⊢;refine Kf (pe _ s9 σ8 H9 _ I9 q9) λz s10 ⟨yv,H10,I10,r10,acc,ag3,ag4,nx⟩=>?_;exact acf (X:=X.p6 s3 H3 scope ce fp) I10 ag3 ag4 r10 λs11 I11=>di I11 nx
 exact codeAny_compStart_list loop (T.self X.A 0 _ _ _ st4 loop)
def aeH (hc:X.calm=true) (hN:X.N.Nodup) (hi:PI X tg iter wi) (ok:Dv X.N X.env.scope scope own)
  (hg :∀(s:Shared) (H:Hp) (C:Addr) (cl:List (Str × Addr)) (fp:List Addr),PG (X.p6 s H scope (compEnvC scope cl C X.env) fp) tg g) (ht :∀(s:Shared) (H:Hp) (C:Addr) (cl:List (Str × Addr)) (fp:List Addr),Ld (X.p6 s H scope (compEnvC scope cl C X.env) fp) ifs tt)
  (he :∀(s:Shared) (H:Hp) (C:Addr) (cl:List (Str × Addr)) (fp:List Addr),PE (X.p6 s H scope (compEnvC scope cl C X.env) fp) vP te) (hs :∀x,foldedSetIterable iter X.env x=pure x:=by intro _;rfl) :
  PE X (.ListComp vP [⟨tg,iter,ifs,0⟩] scope pos) (P0 wi g tt te (own.map (·.2))):=by
 intro af s σ H Q I h;rw[eval_ListComp];refine P1 hc hN I hi ok hg ht he hs h λD C s' m H' I' q hn f=>⟨m,hn,λh'' sb=>?_⟩
 obtain⟨f0,f1,f2,f3,f4,f5⟩:=f;exact⟨.ref D,H',I'.turned (t':=s'.toks) (λb o hb e=>(sb.2 b hb).trans e) f0 f1 f3 f4 f5,Z,q⟩
def Wa (hc:X.calm=true) (hN:X.N.Nodup) (hy:X.N[i]?=some y) (Yh:X.env.scope.names.lookup y=some .local)
  (Na:swapsWith (.ListComp vP [⟨tg,iter,ifs,0⟩] scope pos) (some (.Name y py)) Wb.line X.env=pure true) (hi:PI X tg iter wi) (ok:Dv X.N X.env.scope scope own)
  (hg :∀(s:Shared) (H:Hp) (C:Addr) (cl:List (Str × Addr)) (fp:List Addr),PG (X.p6 s H scope (compEnvC scope cl C X.env) fp) tg g) (ht :∀(s:Shared) (H:Hp) (C:Addr) (cl:List (Str × Addr)) (fp:List Addr),Ld (X.p6 s H scope (compEnvC scope cl C X.env) fp) ifs tt)
  (he :∀(s:Shared) (H:Hp) (C:Addr) (cl:List (Str × Addr)) (fp:List Addr),PE (X.p6 s H scope (compEnvC scope cl C X.env) fp) vP te) (hs :∀x,foldedSetIterable iter X.env x=pure x:=by intro _;rfl) :
  PS X (.Assign [.Name y py] (.ListComp vP [⟨tg,iter,ifs,0⟩] scope pos) Wb) (vN (P0 wi g tt te (own.map (·.2))) (l5 i)):=by
 intro af s σ H D I h;rw[exec_Assign_Name_used _ _ _ _ Na];refine wpAny_bind (wpAny_standAt (wpAny_bind ?_));show wpAny _ X.A (do let _ <- comprehension (.ListComp vP [⟨tg,iter,ifs,0⟩] scope pos) scope X.env (firstIterPos [⟨tg,iter,ifs,0⟩] pos) (newList []) false (eval iter X.env) (some (assign (.Name y py) X.env))) _ _ s;have h:P0 wi g tt te (own.map (·.2)) σ H (λx H1=>l5 i x σ H1 D.nx):=h;refine wpAny_bind (cX (P1 (Qf:=λ_ s'=>SP X af D .next s') hc hN I hi ok hg ht he hs h λL C s' m H' I' q hn f=>?_) λ_ s' hq=>wpAny_pure (wpAny_pure hq));show wpAny _ _ (assign (.Name y py) X.env (.ref L)) _ _ _;refine wpAny_assign_Name (KY (v:=V.ref L) I' hN hy (.inl Yh) rfl (λs2 I2 ⟨a,sb,ha⟩=>?_) (.inr Yh));obtain⟨f0,f1,f2,f3,f4,f5⟩:=f;have haC:C≠a:=by
  rcases ha with z | z
  ·rw[z];exact f1
  exact λe=>f4 y a z e.symm
 refine⟨m,hn.sameBut sb haC,λh3 sb3=>?_⟩;exact⟨_,H',I2.turned (t':=s2.toks) (λb o hb e=>(sb3.2 b hb).trans e) f0 f1 f3 f4 f5,q⟩
end
def Wc {lo:Int} {n:Nat} {g:TG} {tt:TT} {te:TE} {vs:List Nat} {σ : St} {H1:Hp} {D:Addr} {Qd:Hp->Prop} (Pv:Nat->Hp->Prop) (h0:Pv 0 (aX H1 D (.lst [])))
  (hs :∀i H,i < n->Pv i H->g (.int (lo+i)) (fg σ vs) H λσ2 H2=>fg σ2 vs=fg σ vs/\tt σ2 H2 λb H3=>
   if b=true then te σ2 H3 λy H4=>∃acc,H4 D=some (.lst acc)/\acc.length < sizeLine/\Pv (i+1) (aX H4 D (.lst (acc++[y]))) else Pv (i+1) H3) (hd :∀H,Pv n H->Qd H) :
  ∃W:Nat->Nat->Hp->Prop,(∃m,W 0 m (aX H1 D (.lst [])))/\∀i m H,W i m H->
   ((yX lo n).stop i H/\Qd H)\/((yX lo n).go i H/\∃Nx:Hp->Prop,(∀H',Nx H'->∃m',m' < m/\W (i+1) m' H')/\∀x H',(yX lo n).ET i H x H'->g x (fg σ vs) H' λσ2 H2=>fg σ2 vs=fg σ vs/\tt σ2 H2 λb H3=>
    if b=true then te σ2 H3 λy H4=>∃acc,H4 D=some (.lst acc)/\acc.length < sizeLine/\Nx (aX H4 D (.lst (acc++[y]))) else Nx H3):=by
 refine⟨λi m H=>m=n - i/\i<=n/\Pv i H,⟨n,by simp,bK _,h0⟩,?_⟩;rintro i m H ⟨rfl,hi,p⟩;by_cases kE:i < n
 ·refine .inr ⟨kE,Pv (i+1),λH' p'=>⟨n - (i+1),by lia,Z,kE,p'⟩,λx H' y=>?_⟩
  obtain⟨e,y⟩:=y;subst e y;exact hs i _ kE p
 have e:i=n:=by lia
 subst e;exact .inl ⟨aN _,hd H p⟩
def qX {K:ak} {a:Addr} {xs:List V} {g:TG} {tt:TT} {te:TE} {vs:List Nat} {σ : St} {H1:Hp} {D:Addr} {Qd:Hp->Prop} (Pv:Nat->Hp->Prop) (h0:Pv 0 (aX H1 D (.lst []))) (hl :∀i H,i<=xs.length->Pv i H->aO K H a xs)
  (hs :∀i x H,xs[i]?=some x->Pv i H->g x (fg σ vs) H λσ2 H2=>fg σ2 vs=fg σ vs/\tt σ2 H2 λb H3=>
   if b=true then te σ2 H3 λy H4=>∃acc,H4 D=some (.lst acc)/\acc.length < sizeLine/\Pv (i+1) (aX H4 D (.lst (acc++[y]))) else Pv (i+1) H3) (hd :∀H,Pv xs.length H->Qd H) :
  ∃W:Nat->Nat->Hp->Prop,(∃m,W 0 m (aX H1 D (.lst [])))/\∀i m H,W i m H->
   ((zW K a).stop i H/\Qd H)\/((zW K a).go i H/\∃Nx:Hp->Prop,(∀H',Nx H'->∃m',m' < m/\W (i+1) m' H')/\∀x H',(zW K a).ET i H x H'->g x (fg σ vs) H' λσ2 H2=>fg σ2 vs=fg σ vs/\tt σ2 H2 λb H3=>
    if b=true then te σ2 H3 λy H4=>∃acc,H4 D=some (.lst acc)/\acc.length < sizeLine/\Nx (aX H4 D (.lst (acc++[y]))) else Nx H3):=by
 refine⟨λi m H=>m=xs.length - i/\i<=xs.length/\Pv i H,⟨xs.length,by simp,bK _,h0⟩,?_⟩;rintro i m H ⟨rfl,hi,p⟩;have q:=hl i H hi p;by_cases kE:i < xs.length
 ·refine .inr ⟨⟨xs,xs[i],q,by simp[kE]⟩,Pv (i+1),λH' p'=>⟨xs.length - (i+1),by lia,Z,kE,p'⟩,λx H' y=>?_⟩
  obtain⟨e,y⟩:=y;subst e;exact hs i x _ (y xs q) p
 have e:i=xs.length:=by lia
 subst e;exact .inl ⟨⟨xs,q,aN _⟩,hd H p⟩
def aci (N:List Str) (sc scope:Scope) (own:List (Str × Nat)):Bool:=
 (match scope.kind with | .function=>true | _=>false)&&(scope.names.all λy=>decide (scope.names.lookup y.1=some y.2))&&(own.all λp=>decide (N[p.2]?=some p.1)) &&
  (scope.names.all λy=>match y.2 with
   | .free=>(match sc.names.lookup y.1 with | some .cell=>true | some .free=>true | _=>false)
   | .local=>decide (y.1∈own.map (·.1)) || decide (y.1∉N)
   | .cell=>decide (y.1∈own.map (·.1)) || decide (y.1∉N)
   | _=>true)
def dJ (h:aci N sc scope own=true):Dv N sc scope own:=by
 unfold aci at h;simp only[aB,fZ,decide_eq_true_eq] at h;obtain⟨⟨⟨h1,h2⟩,h3⟩,h4⟩:=h;refine⟨?_,h2,h3,λy hy e=>?_,λy hy e=>?_⟩
 ·split at h1
  ·assumption
  cases h1
 ·have q:=h4 y hy
  simp only[e] at q;split at q <;> first | exact .inl (by assumption) | exact .inr (by assumption) | cases q
 have q:=h4 y hy;rcases e with e | e <;> (simp only[e,oh,decide_eq_true_eq] at q;exact q)
section
variable {κ : Type} [DecidableEq κ]
def qp (fV:List (κ × V)) (k:κ):Option V:=(fV.find? λkv=>decide (kv.1=k)).map (·.2)
def Wd {p:κ × V} {r:List (κ × V)} {k:κ} (e:p.1=k):qp (p::r) k=some p.2:=by simp[qp,jM,e]
def We {p:κ × V} {r:List (κ × V)} {k:κ} (e:¬ p.1=k):qp (p::r) k=qp r k:=by simp[qp,jM,e]
def rT.TR (r:rT o u):o.isSome=u.isSome:=by
 cases o with
 | none=>cases u with
  | none=>rfl
  | some _=>exact(show False from r).elim
 | some _=>cases u with
  | none=>exact(show False from r).elim
  | some _=>rfl
theorem rT.getD (r:rT o u) (rd:RelV d d'):RelV (o.getD d) (u.getD d'):=by
 cases o with
 | none=>cases u with
  | none=>exact rd
  | some _=>exact(show False from r).elim
 | some _=>cases u with
  | none=>exact(show False from r).elim
  | some _=>exact r
def KV.val {fV:List (κ × V)} {vs:List (κ × Value)} (r:KV fV vs) (k:κ):rT (qp fV k) (valueAt vs k):=by
 unfold KV at r
 induction r with
 | nil=>exact True.intro
 | @cons p q ps qs h t ih=>
  obtain⟨h1,h2⟩:=h;by_cases e:p.1=k
  ·have e':q.1=k:=h1.symm.trans e
   have b:valueAt (q::qs) k=some q.2:=by simp[valueAt,jM,e']
   rw[Wd e,b];exact h2
  have e':¬ q.1=k:=λz=>e (h1.trans z);have b:valueAt (q::qs) k=valueAt qs k:=by simp[valueAt,jM,e']
  rw[We e,b];exact ih
end
def RW {P:Program} {w:World} (r:RelV (kV k) u):(lq P w).is k u=true:=by
 cases k with
 | inl i=>obtain⟨t,e⟩:=(show∃t,u=Value.int i t from r);subst e;exact OZ P w i t
 | inr x=>obtain⟨t,e⟩:=(show∃t,u=Value.str x t from r);subst e;exact O0 P w x t
def acj (i:Expr):Prop:=∀ov iv,subscripted i false ov iv=operate [ov,iv] (getItem ov iv)
def ZK {w:World} {T id:String}
  (hl:typeLookup (.type T) "__getitem__" = pure (some (.builtin id))) (hs:acj slice)
  (h:wpAny (model prog w) A (eval value env) (λo s₁=>wpAny (model prog w) A (eval slice env) (λi s₂=>s₂.TypeIs o T/\wpAny (model prog w) A (getItem o i) Q E s₂) E s₁) E s) :
  wpAny (model prog w) A (eval (.Subscript value slice pos) env) Q E s:=by
 refine Subscript_ (wpAny_mono h (λo s₁ h₁=>wpAny_mono h₁ (λi s₂ h₂=>?_) λ_ _ x=>x) λ_ _ x=>x);obtain⟨hT,h₂⟩:=h₂;unfold subscriptTail;refine wpAny_bind ?_;rw[getitemInPython_of_ne hT.not_modules];refine wpAny_bind (wpAny_specialOf hT hl ?_);have di:wpAny (model prog w) A (subscripted slice false o i) (λr s₃=>wpAny (model prog w) A (letTemporaryGo value o r >>= λ_=>pure r) Q E s₃) E s₂:=by
  rw[hs o i];exact wpAny_operating (wpAny_mono h₂ (λr s₃ h₃=>wpAny_bind (wpAny_letTemporaryGo (wpAny_pure h₃))) λ_ _ x=>x)
 first
  | exact wpAny_pure (wpAny_bind di)
  | exact wpAny_bind (wpAny_pure (wpAny_bind di))
  | exact wpAny_bind di
section
variable {X:Cx}
def TU (I:Inv X af σ H s) (o:Obj)
  (T:Turn X.prog X.w X.K tg J [s.heap.objs.size] s.heap.objs.size tn) (st:tn 0 (s.heap.push o)) (q:R J H):PIE X af σ tg R (.ref s.heap.objs.size) { s with heap:=s.heap.push o,toks:=tk }:=by
 refine⟨s.heap.objs.size,[s.heap.objs.size],tn,J,H,Z,I.kept λb ob e=>bC _ e,T,st,λb hb=>?_,q⟩;have e:b=s.heap.objs.size:=by simpa using hb
 subst e;exact I.RF (aN _) (I.cM.fresh (aN _))
end
def TV (x:Str):It:=⟨λi _=>i < x.cps.size,λi H v H'=>H'=H/\∃c,x.cps[i]?=some c/\v=.str ⟨#[c]⟩,λi _=>x.cps.size<=i⟩
def Nb {P:Program} {w:World} {K:ak} (it:Addr) (x:Str) (t:Tok) (ty:String) (Lb:ty = "str_ascii_iterator"\/ty = "str_iterator") :
  Turn P w K tg (TV x) [it] it (λi h=>h.IsStrIter it ty x t i) where
 mem:=by simp
 obj:=λi h st b hb=>by
  have e:b=it:=by simpa using hb
  subst e;obtain⟨o,e,c,d⟩:=st;exact⟨o,e,λv z=>by rw[d] at z;cases z⟩
 keep:=λi h h' st k=>let⟨o,ho,r⟩:=st;⟨o,k it (by simp) o ho,r⟩
 item:=by
  intro X hP hw hK hc i af s σ H E I hf st hg;subst hP hw hK;obtain⟨f0,f1,f2,f3,f4,f5⟩:=hf it (by simp);have W:Walks X.prog X.w X.A it [it] [it] x.cps.size (SignAt x) (λi h=>h.IsStrIter it ty x t i):=by
   rcases Lb with e | e
   ·rw[e];exact Walks.strAscii (I.ok.hd hc) it x t
   rw[e];exact Walks.strWide (I.ok.hd hc) it x t
  have iU:["enumerate","zip","dict_itemiterator","dict_reverseitemiterator","odict_iterator","itertools.zip_longest","itertools.pairwise"].contains ty=false:=by
   rcases Lb with e | e
   ·rw[e];decide
   rw[e];decide
  refine W.item i s _ _ hg st λv h' tk hv jX kk=>?_;obtain⟨c,u,hcx,rfl⟩:=hv;have I1:Inv X af σ H { s with heap:=h',toks:=tk }:=I.turned (λb o hb e=>kk b o (by simpa using hb) e) f0 f1 f3 f4 f5;obtain⟨oi,e,cc,dd⟩:=id jX;exact⟨_,Z,RG (s:={ s with heap:=h',toks:=tk }) e cc dd iU ⟨.str ⟨#[c]⟩,H,I1,⟨u,Z⟩,⟨Z,c,hcx,Z⟩,jX,λb hb=>(hf b hb).1⟩⟩
 done:=by
  intro X hP hw hK hc i af s σ H E I hf st hg;subst hP hw hK;obtain⟨f0,f1,f2,f3,f4,f5⟩:=hf it (by simp);have hx:x.cps[i]?=none:=Array.getElem?_eq_none hg;rcases Lb with e | e
  ·rw[e] at st
   exact wpAny_pyNext_ascii_end (I.ok.hd hc) st hx λh' eb=>⟨Z,I.turned (t':=s.toks) (λb o hb e=>eb b o hb e) f0 f1 f3 f4 f5⟩
  rw[e] at st;exact wpAny_pyNext_wide_end (I.ok.hd hc) st hx λh' eb=>⟨Z,I.turned (t':=s.toks) (λb o hb e=>eb b o hb e) f0 f1 f3 f4 f5⟩
 self:=λA i s Q E st h=>by
  rcases Lb with e | e
  ·rw[e] at st;exact wpAny_pyIter_striter_ascii st h
  rw[e] at st;exact wpAny_pyIter_striter_wide st h
inductive ack (R:It->Hp->Prop) (v:V) (H1:Hp):Prop where
 | mk x (_:v=.str x) (_:R (TV x) H1)
def acm (te:TE):TI:=λσ H R=>te σ H λv H1=>ack R v H1
def acn (he:PE X e te):PI X tg e (acm te):=by
 intro af s σ H R I h;refine cX (he af s σ H _ I h) λv s1 ⟨y,H1,I1,r1,x,ex,q⟩=>?_;subst ex;obtain⟨t,rfl⟩:=r1;cases ha:x.cps.all (· < 128)
 ·exact wpAny_pyIter_wide ha (TU (tk:=s1.toks) I1 _ (Nb _ x t "str_iterator" (.inr rfl)) ⟨_,dt _ rfl,Z,Z⟩ q)
 exact wpAny_pyIter_ascii ha (TU (tk:=s1.toks) I1 _ (Nb _ x t "str_ascii_iterator" (.inl rfl)) ⟨_,dt _ rfl,Z,Z⟩ q)
theorem zZ :∀{ys:List Str} {us:List Value},Vals (ys.map V.str) us->StrsAre us ys
 | [],_,.nil=>.nil
 | y::ys,_,.cons r t=>by
  obtain⟨k,rfl⟩:=r;exact .cons y k (zZ t)
section
variable {X:Cx}
def ZL:PV X "str.join" (λx xs H Q=>∃a p,∃ys:List Str,x=.str a/\xs=[.ref p]/\(aO X.K H p (ys.map V.str)\/gN X.K H p (ys.map V.str))/\
  (ys.map (·.length)).sum+ys.length * a.length<=16777216/\Q (.str (Txt.join a ys)) H):=by
 intro af s σ H x xs v us Q I rx rs h;obtain⟨a,p,ys,rfl,rfl,hp,hz,h⟩:=h;obtain⟨t,rfl⟩:=rx;cases rs with
 | cons r1 rs=>
  cases rs;cases r1;rcases hp with hp | hp
  ·obtain⟨bq,r,⟨o,n,ho,hc,_,hd⟩,_⟩:=I.list hp
   exact PyProof.Rows.join_list (items:=bq.toArray) ⟨o,ho,hc,n,hd⟩ (by rw[List.toList_toArray];exact zZ r) hz λt' k=>⟨.str _,H,I.tok k,⟨t',Z⟩,h⟩
  obtain⟨bq,r,ht,_⟩:=I.tuple hp;exact PyProof.Rows.join_tuple (items:=bq.toArray) ht (by rw[List.toList_toArray];exact zZ r) hz λt' k=>⟨.str _,H,I.tok k,⟨t',Z⟩,h⟩
end
section
variable {X:Cx} {o e:Expr} {to te:TE}
def tM1 (r:V->List V->Hp->VK->Prop) (to te:TE):TE:=λσ H Q=>to σ H λx H1=>(∃a,x=.str a)/\te σ H1 λy H2=>r x [y] H2 Q
def aeI {id:String} {name:Str} {apos pos:Pos} {r:V->List V->Hp->VK->Prop} (slot:Slot "str" name id) (ty:typeOf (.builtin id)=pure (.type "method_descriptor")) (rule:PV X id r) (ho:PE X o to) (he:PE X e te)
  (hs:starEach [e] X.env=[(false,eval e X.env)]:=by rfl) (kH:attributeBase o name X.env (eval o X.env)=eval o X.env:=by rfl) (l7:(apos.endLine == pos.line)=true:=by rfl) :
  PE X (.Call (.Attribute o name apos) [e] [] pos) (tM1 r to te):=by
 intro af s σ H Q I h;refine PySem.Call_method1 kH hs l7 (cX (ho af s σ H _ I h) λv s1 ⟨x,H1,I1,r1,q1⟩=>?_);obtain⟨⟨a,rfl⟩,q1⟩:=q1;obtain⟨t,rfl⟩:=_root_.id r1;refine⟨"str",_,F.plainAttrs_str,slot,ty,typeIs_str _ _ _,(λ_ e=>nomatch e),Calls.callWith_builtin rfl (Calls.evalArgs_plain (Calls.spliced_cons ?_))⟩;exact cX (he af s1 σ H1 _ I1 q1) λu s2 ⟨y,H2,I2,r2,q2⟩=>Calls.spliced_nil (rule af s2 σ H2 _ [y] _ [u] Q I2 r1 (.cons r2 .nil) q2)
def ZM (ho:PE X o to) (he:PE X e te) (hs:starEach [e] X.env=[(false,eval e X.env)]:=by rfl) (kH:attributeBase o "join" X.env (eval o X.env)=eval o X.env:=by rfl) (l7:(apos.endLine == pos.line)=true:=by rfl) :
  PE X (.Call (.Attribute o "join" apos) [e] [] pos) (tM1 (λx xs H Q=>∃a p,∃ys:List Str,x=.str a/\xs=[.ref p]/\(aO X.K H p (ys.map V.str)\/gN X.K H p (ys.map V.str))/\
   (ys.map (·.length)).sum+ys.length * a.length<=16777216/\Q (.str (Txt.join a ys)) H) to te):=
 aeI F.slot_str_join F.type_str_join ZL ho he hs kH l7
end
def inClass (s:Stmt) (j:Nat):Stmt:=match s with
 | .ClassDef _ _ _ body _ _ _ _ _ _ _=>body.getD j (.Pass ⟨0,0,0,0⟩)
 | _=>.Pass ⟨0,0,0,0⟩
def ph (s:Stmt):Arguments:=match s with
 | .FunctionDef _ a _ _ _ _ _ _ _ _=>a
 | _=>{ posonlyargs:=[],args:=[],vararg:=none,kwonlyargs:=[],kw_defaults:=[],kwarg:=none,defaults:=[] }
def kj (s:Stmt):List Stmt:=match s with
 | .FunctionDef _ _ b _ _ _ _ _ _ _=>b
 | _=>[]
def ax (s:Stmt):Scope:=match s with
 | .FunctionDef _ _ _ _ _ _ sc _ _ _=>sc
 | _=>{ kind:=.function,names:=[],isGenerator:=false,isCoroutine:=false }
abbrev aL:zY:=λ_ _ _ _ _ _=>False
abbrev E0:XK:=λ_ _ _=>False
theorem aG:Passes aL X E0:=λ_ _ _ _ _ _ _ h=>h.elim
structure vQ (K:ak) (x qual:Str) (st:Stmt) (f:Addr) (fd:FuncData):Prop where
 ex :∃(oc:Value) (od:Option Addr) (kV doc pm:Value) (an:Option Addr) (bx ct:Value) (tL:Array (Option Value)),
  fd=sO x qual (ph st) (kj st) (ax st) .none kV doc pm an bx ct/\K.lookup f=some ⟨oc,od,.func fd,tL⟩/\C4 K bx qual=true
 kp:kz K (.ref f)=true
section
variable {P:Program} {w:World} {K:ak} {mg:Str->Option Value} {aS:Heap}
def vQ.ok {x qual:Str} {st:Stmt} {f:Addr} {fd:FuncData} {N ps:List Str} {k:Nat} {sp:Sp} (F:vQ K x qual st f fd) (S:aH N ps (ax st)) (len :∀vs H Q E,sp vs H Q E->vs.length=ps.length)
  (zp :∀(bx:Value) (A:Around) (outer:List Env) (s:Shared) (H:Hp) (vs:List V) (Q:VK) (E:XK),fL k (A.deeper (envOfC qual (ax st) s.heap.objs.size f bx))->sp vs H Q E->
   ∃t,vM (rX aL P w K mg aS N qual (ax st) f bx A outer s H E).D9 (kj st) t/\t { nx:=λ_ H'=>Q .cj H',rt:=Q } (start N vs) H):gH P w K mg aS aL (k+1) f fd ps sp:=by
 obtain⟨oc,od,kV,doc,pm,an,bx,ct,tL,rfl,lk,rF⟩:=F.ex;refine Ya lk rF S len λA outer s H vs Q E hr Br=>?_;obtain⟨t,h,q⟩:=zp bx A outer s H vs Q E hr Br;exact⟨t,h.D9,q⟩
def vQ.binds {x qual:Str} {st:Stmt} {f:Addr} {fd:FuncData} {ps:List Str} (F:vQ K x qual st f fd)
  (h :∀(kV doc pm:Value) (an:Option Addr) (bx ct:Value) (us:List Value),us.length=ps.length->bindArgs (sO x qual (ph st) (kj st) (ax st) .none kV doc pm an bx ct) ⟨us,[]⟩=pure (ps.zip us)):Binds K fd ps []:=by
 obtain⟨oc,od,kV,doc,pm,an,bx,ct,tL,rfl,lk,rF⟩:=F.ex;exact .all (h kV doc pm an bx ct)
theorem yg {x qual:Str} {st:Stmt} {f:Addr} {oc:Value} {od an:Option Addr} {tL:Array (Option Value)} {kV doc pm bx ct:Value} (l:K.lookup f=some ⟨oc,od,.func (sO x qual (ph st) (kj st) (ax st) .none kV doc pm an bx ct),tL⟩)
  (c:C4 K bx qual=true) (k:kz K (.ref f)=true):vQ K x qual st f (sO x qual (ph st) (kj st) (ax st) .none kV doc pm an bx ct):=⟨⟨oc,od,kV,doc,pm,an,bx,ct,tL,Z,l,c⟩,k⟩
end
def cH {A B:Prop} (h:B):if false=true then A else B:=by
 rw[if_neg bQ];exact h
def cF {A B:Prop} (h:A):if true=true then A else B:=by
 rw[if_pos rfl];exact h
def bE {c A B:Prop} [Decidable c] (h1:c->A) (h2:¬ c->B):if c then A else B:=by
 by_cases h:c
 ·rw[if_pos h]
  exact h1 h
 rw[if_neg h];exact h2 h
def bo (H H':Hp):Prop:=∀b o,H b=some o->H' b=some o
theorem bo.trans (a:bo H H1) (b:bo H1 H2):bo H H2:=λc o h=>b c o (a c o h)
def bo.free {H H':Hp} (e:bo H H') {l:Addr} (h:H' l=Option.none):H l=Option.none:=by
 cases q:H l with
 | none=>rfl
 | some o=>
  rw[e l o q] at h;cases h
open PySem.W (WData Codec OpenSpec Well WellAll ReadsW ReadsAllW)
mutual
inductive Dw (K:ak) (H:Hp):V->WData->Prop
 | cj:Dw K H .cj .none
 | bl (b:Bool):Dw K H (.bl b) (.bool b)
 | int (i:Int):Dw K H (.int i) (.int i)
 | str (x:Str):Dw K H (.str x) (.str x)
 | vK (b:Array UInt8):Dw K H (.vK b) (.bytes b.toList)
 | lst {a:Addr} {xs:List V} {ds:List WData}:aO K H a xs->oW K H xs ds->Dw K H (.ref a) (.list ds)
 | tup {a:Addr} {xs:List V} {ds:List WData}:gN K H a xs->oW K H xs ds->Dw K H (.ref a) (.tuple ds)
inductive oW (K:ak) (H:Hp):List V->List WData->Prop
 | nil:oW K H [] []
 | cons {v:V} {vs:List V} {d:WData} {ds:List WData}:Dw K H v d->oW K H vs ds->oW K H (v::vs) (d::ds)
end
theorem P2 {K:ak} :∀ns:List Int,oW K H (ns.map V.int) (ns.map WData.int)
 | []=>.nil
 | n::r=>.cons (.int n) (P2 r)
theorem P4 {K:ak} :∀(ns:List Int) (xs:List V),oW K H xs (ns.map WData.int)->xs=ns.map V.int
 | [],xs,h=>by
  cases h;rfl
 | n::r,xs,h=>by
  cases h with
  | cons h1 h2=>
   cases h1;rw[P4 r _ h2] <;> rfl
section
variable {P:Program} {w:World} {K:ak} {H:Hp} {h:Heap} {R:PySem.W.WRecords} {cl:Str->Option Addr}
def aco (cM:jq P w H h) (KX:K.In h) (q:aO K H a xs) :∃(bq:List Value) (o:Obj) (n:Nat),Vals xs bq/\h.get? a=some o/\o.cls=.type "list"/\o.data=.seq bq.toArray n:=by
 rcases q with q | ⟨o,bq,n,e,hc,_,hd,_,hv⟩
 ·obtain⟨_,bq,n,hv,e⟩:=(show j6 P w H h a (.lst xs) from q.ok cM)
  exact⟨bq,_,n,hv,e,Z,Z⟩
 exact⟨bq.toList,o,n,hv,KX _ _ e,hc,by simp[hd]⟩
def acp (cM:jq P w H h) (KX:K.In h) (q:gN K H a xs) :∃(bq:List Value) (o:Obj) (n:Nat),Vals xs bq/\h.get? a=some o/\o.cls=.type "tuple"/\o.data=.seq bq.toArray n:=by
 rcases q with q | ⟨o,bq,n,e,hc,hd,_,hv⟩
 ·obtain⟨_,bq,hv,o,e,hc,n,hd⟩:=(show j6 P w H h a (.tup xs) from q.ok cM)
  exact⟨bq,o,n,hv,e,hc,hd⟩
 exact⟨bq.toList,o,n,hv,KX _ _ e,hc,by simp[hd]⟩
mutual
theorem Dw.reads (cM:jq P w H h) (KX:K.In h) :∀(d:WData) (v:V) (u:Value),Dw K H v d->RelV v u->∃as,ReadsW R cl h u d as
 | .none,_,_,x,r=>by
  cases x;cases r;exact⟨_,ReadsW.none⟩
 | .bool b,_,_,x,r=>by
  cases x;cases r;exact⟨_,ReadsW.bool b⟩
 | .int i,_,_,x,r=>by
  cases x;obtain⟨t,rfl⟩:=r;exact⟨_,ReadsW.int i t⟩
 | .str s,_,_,x,r=>by
  cases x;obtain⟨t,rfl⟩:=r;exact⟨_,ReadsW.str s t⟩
 | .bytes b,_,_,x,r=>by
  cases x;obtain⟨t,rfl⟩:=r;exact⟨_,ReadsW.bytes _ t⟩
 | .list ds,_,_,x,r=>by
  cases x with
  | lst hs ha=>
   cases r;obtain⟨bq,o,n,rv,ho,hc,hd⟩:=aco cM KX hs;obtain⟨as,hr⟩:=Dw.readsAll cM KX ds _ bq ha rv;exact⟨_,ReadsW.list ho hc hd hr⟩
 | .tuple ds,_,_,x,r=>by
  cases x with
  | tup hs ha=>
   cases r;obtain⟨bq,o,n,rv,ho,hc,hd⟩:=acp cM KX hs;obtain⟨as,hr⟩:=Dw.readsAll cM KX ds _ bq ha rv;exact⟨_,ReadsW.tuple ho hc hd hr⟩
 | .float _,_,_,x,_=>by cases x
 | .dict _,_,_,x,_=>by cases x
 | .bytearray _,_,_,x,_=>by cases x
 | .set _,_,_,x,_=>by cases x
 | .frozenset _,_,_,x,_=>by cases x
 | .obj _ _,_,_,x,_=>by cases x
theorem Dw.readsAll (cM:jq P w H h) (KX:K.In h) :∀(ds:List WData) (vs:List V) (us:List Value),oW K H vs ds->Vals vs us->∃as,ReadsAllW R cl h us ds as
 | [],_,_,x,r=>by
  cases x;cases r;exact⟨_,ReadsAllW.nil⟩
 | d::ds,_,_,x,r=>by
  cases x with
  | cons h1 h2=>
   cases r with
   | cons r1 r2=>
    obtain⟨as,q1⟩:=Dw.reads cM KX d _ _ h1 r1;obtain⟨bs,q2⟩:=Dw.readsAll cM KX ds _ _ h2 r2;exact⟨_,ReadsAllW.cons q1 q2⟩
end
end
mutual
def Bu:WData->Bool
 | .none=>true
 | .bool _=>true
 | .int _=>true
 | .str _=>true
 | .bytes _=>true
 | .list xs=>yB xs
 | .tuple xs=>yB xs
 | _=>false
def yB:List WData->Bool
 | []=>true
 | x::r=>Bu x&&yB r
end
theorem Nc {α : Type} {f:α->WData} (h :∀a,Bu (f a)=true) :∀l:List α,yB (l.map f)=true
 | []=>rfl
 | x::r=>by
  show(Bu (f x)&&yB (r.map f))=true;rw[h x,Nc h r] <;> rfl
theorem yh :∀(c:Codec) (a:c.denote),Bu (c.enc a)=true
 | .unit,_=>rfl
 | .bool,_=>rfl
 | .int _ _,_=>rfl
 | .nat _ _,_=>rfl
 | .u8,_=>rfl
 | .bytes _ _,_=>rfl
 | .text _ _ _ _,_=>rfl
 | .list _ _ c,a=>Nc (λx=>yh c x) a
 | .pair c d,a=>by
  show(Bu (c.enc a.1)&&(Bu (d.enc a.2)&&true))=true;rw[yh c a.1,yh d a.2] <;> rfl
 | .triple c d e,a=>by
  show(Bu (c.enc a.1)&&(Bu (d.enc a.2.1)&&(Bu (e.enc a.2.2)&&true)))=true;rw[yh c a.1,yh d a.2.1,yh e a.2.2] <;> rfl
 | .option c,none=>rfl
 | .option c,some x=>yh c x
theorem Le :∀(cs:List Codec) (a:Codec.denoteAll cs),yB (Codec.encAll cs a)=true
 | [],_=>rfl
 | c::cs,a=>by
  show(Bu (c.enc a.1)&&yB (Codec.encAll cs a.2))=true;rw[yh c a.1,Le cs a.2] <;> rfl
theorem Dx :∀{xs:List WData} {d:WData},d∈xs->d.weight<=WData.weightAll xs
 | [],d,h=>absurd h (by simp)
 | x::r,d,h=>by
  show d.weight<=x.weight+1+WData.weightAll r;rcases bS.mp h with e | m
  ·rw[e]
   lia
  have z:=Dx m
  lia
def toV:Value->V
 | .none=>.cj
 | .bool b=>.bl b
 | .int i _=>.int i
 | .str x _=>.str x
 | .bytes b _=>.vK b
 | .ref a=>.ref a
 | _=>.cj
def CB (A:List Addr):Value->Prop
 | .none=>True
 | .bool _=>True
 | .int _ _=>True
 | .str _ _=>True
 | .bytes _ _=>True
 | .ref a=>a∈A
 | _=>False
theorem CB.mono (h :∀a∈A,a∈B) :∀{u:Value},CB A u->CB B u:=λ{u} x=>by
 cases u with
 | ref a=>exact h a x
 | none=>trivial
 | bool b=>trivial
 | int i t=>trivial
 | str s t=>trivial
 | bytes b t=>trivial
 | _=>exact False.elim x
def Wf (x:CB A u):RelV (toV u) u:=by
 cases u with
 | ref a=>rfl
 | none=>rfl
 | bool b=>rfl
 | int i t=>exact⟨t,Z⟩
 | str s t=>exact⟨t,Z⟩
 | bytes b t=>exact⟨t,Z⟩
 | _=>exact False.elim x
theorem xt :∀{vs:List Value},(∀u∈vs,CB A u)->Vals (vs.map toV) vs
 | [],_=>.nil
 | u::r,h=>.cons (Wf (h u (dH ..))) (xt λx hx=>h x (b7 _ hx))
def uw (h:Heap) (A:List Addr) (a:Addr):Prop:=∃vs:List Value,vs.length<=sizeLine/\(∀u∈vs,CB A u)/\
 (h.get? a=some { cls:=.type "list",data:=.seq vs.toArray }\/h.get? a=some { cls:=.type "tuple",data:=.seq vs.toArray })
theorem uw.mono (k :∀a∈A,a∈B) (x:uw h A a):uw h B a:=by
 obtain⟨vs,h1,h2,h3⟩:=x;exact⟨vs,h1,λu hu=>(h2 u hu).mono k,h3⟩
theorem xX {P:Params} :∀{vs:List Value} {ds:List WData},WellAll P h vs ds->vs.length=ds.length
 | _,_,.nil=>rfl
 | _,_,.cons _ b=>by
  show _+1=_+1;rw[xX b]
def Lf {P:Params} (x:Well P h v (.list ds)) :∃(a:Addr) (vs:List Value),v=.ref a/\h.get? a=some { cls:=.type "list",data:=.seq vs.toArray }/\WellAll P h vs ds:=by
 cases x with
 | list ho xu=>exact⟨_,_,Z,ho,xu⟩
def IX {P:Params} (x:Well P h v (.tuple ds)) :∃(a:Addr) (vs:List Value),v=.ref a/\h.get? a=some { cls:=.type "tuple",data:=.seq vs.toArray }/\WellAll P h vs ds:=by
 cases x with
 | tuple ho xu=>exact⟨_,_,Z,ho,xu⟩
def Lg {P:Params} (x:WellAll P h us (d::ds)) :∃(v:Value) (vs:List Value),us=v::vs/\Well P h v d/\WellAll P h vs ds:=by
 cases x with
 | cons a b=>exact⟨_,_,Z,a,b⟩
theorem P5 (h:n<=1048576):n<=sizeLine:=c8 h (by decide)
section
mutual
theorem Wg :∀(d:WData) (v:Value),Well P h v d->Bu d=true->d.weight<=1048576->∃A:List Addr,CB A v/\∀a∈A,uw h A a
 | .none,_,x,_,_=>by
  cases x;exact⟨[],trivial,λa m=>absurd m (by simp)⟩
 | .bool b,_,x,_,_=>by
  cases x;exact⟨[],trivial,λa m=>absurd m (by simp)⟩
 | .int i,_,x,_,_=>by
  cases x;exact⟨[],trivial,λa m=>absurd m (by simp)⟩
 | .str s,_,x,_,_=>by
  cases x;exact⟨[],trivial,λa m=>absurd m (by simp)⟩
 | .bytes b,_,x,_,_=>by
  cases x;exact⟨[],trivial,λa m=>absurd m (by simp)⟩
 | .list ds,_,x,p,z=>by
  obtain⟨a,vs,rfl,ho,xu⟩:=Lf x;have z2:WData.weightAll ds<=1048576:=z;obtain⟨A,h1,h2⟩:=Dy ds _ xu p λd hd=>c8 (Dx hd) z2;have k :∀b∈A,b∈a::A:=λb hb=>b7 _ hb;refine⟨a::A,dH ..,λb hb=>?_⟩;rcases bS.mp hb with e | m
  ·rw[e]
   exact⟨vs,P5 (by rw[xX xu];exact c8 (PySem.W.length_le_weightAllW ds) z2),λu hu=>(h1 u hu).mono k,.inl ho⟩
  exact(h2 b m).mono k
 | .tuple ds,_,x,p,z=>by
  obtain⟨a,vs,rfl,ho,xu⟩:=IX x;have z2:WData.weightAll ds<=1048576:=z;obtain⟨A,h1,h2⟩:=Dy ds _ xu p λd hd=>c8 (Dx hd) z2;have k :∀b∈A,b∈a::A:=λb hb=>b7 _ hb;refine⟨a::A,dH ..,λb hb=>?_⟩;rcases bS.mp hb with e | m
  ·rw[e]
   exact⟨vs,P5 (by rw[xX xu];exact c8 (PySem.W.length_le_weightAllW ds) z2),λu hu=>(h1 u hu).mono k,.inr ho⟩
  exact(h2 b m).mono k
 | .float _,_,_,p,_=>fe (show false=true from p)
 | .dict _,_,_,p,_=>fe (show false=true from p)
 | .bytearray _,_,_,p,_=>fe (show false=true from p)
 | .set _,_,_,p,_=>fe (show false=true from p)
 | .frozenset _,_,_,p,_=>fe (show false=true from p)
 | .obj _ _,_,_,p,_=>fe (show false=true from p)
theorem Dy :∀(ds:List WData) (vs:List Value),WellAll P h vs ds->yB ds=true->(∀d∈ds,d.weight<=1048576)->∃A:List Addr,(∀u∈vs,CB A u)/\∀a∈A,uw h A a
 | [],_,x,_,_=>by
  cases x;exact⟨[],λu m=>absurd m (by simp),λa m=>absurd m (by simp)⟩
 | d::ds,_,x,p,z=>by
  obtain⟨v,vs,rfl,x1,x2⟩:=Lg x;have q:Bu d=true/\yB ds=true:=Bool.and_eq_true_iff.mp p;obtain⟨A,a1,a2⟩:=Wg d v x1 q.1 (z d (dH ..));obtain⟨B,b1,b2⟩:=Dy ds vs x2 q.2 λe he=>z e (b7 _ he);have kA :∀b∈A,b∈A++B:=λb hb=>eY.mpr (.inl hb);have kB :∀b∈B,b∈A++B:=λb hb=>eY.mpr (.inr hb);refine⟨A++B,λu hu=>?_,λb hb=>?_⟩
  ·rcases bS.mp hu with e | m
   ·rw[e]
    exact a1.mono kA
   exact(b1 u m).mono kB
  rcases eY.mp hb with m | m
  ·exact(a2 b m).mono kA
  exact(b2 b m).mono kB
end
end
def RX (o:Obj):Option HO:=match o.data with
 | .seq vs _=>if(o.cls == Value.type "list")=true then some (.u5 o (.lst (vs.toList.map toV))) else some (.u5 o (.tup (vs.toList.map toV)))
 | _=>none
def qr (K:ak) (h:Heap) (A:List Addr):Hp:=λb=>if b∈A then(if(K.lookup b).isNone=true then(h.get? b).bind RX else none) else none
def IY (H:Hp):Prop:=∀b,H b=none\/∃o u,H b=some (.u5 o u)
def Nd (vs:List Value):RX { cls:=.type "list",data:=.seq vs.toArray } = some (.u5 { cls:=.type "list",data:=.seq vs.toArray } (.lst (vs.map toV))):=by
 show(if(Value.type "list" == Value.type "list")=true then some (HO.u5 { cls:=.type "list",data:=.seq vs.toArray } (.lst (vs.toArray.toList.map toV))) else some (HO.u5 { cls:=.type "list",data:=.seq vs.toArray } (.tup (vs.toArray.toList.map toV))))=_;rw[if_pos (beq_self_eq_true _)]
def Nf (vs:List Value):RX { cls:=.type "tuple",data:=.seq vs.toArray } = some (.u5 { cls:=.type "tuple",data:=.seq vs.toArray } (.tup (vs.map toV))):=by
 show(if(Value.type "tuple" == Value.type "list")=true then some (HO.u5 { cls:=.type "tuple",data:=.seq vs.toArray } (.lst (vs.toArray.toList.map toV))) else some (HO.u5 { cls:=.type "tuple",data:=.seq vs.toArray } (.tup (vs.toArray.toList.map toV))))=_;rw[if_neg (by decide)]
section
variable {P:Program} {w:World} {K:ak} {h:Heap} {A:List Addr}
def Gk (hb:b∈A) (hk:K.lookup b=none) (e:h.get? b=some o):qr K h A b=RX o:=by
 unfold qr;rw[if_pos hb,hk,if_pos (show(none:Option Obj).isNone=true from rfl),e] <;> rfl
def ZN (q:qr K h A b=some u):b∈A/\K.lookup b=none:=by
 unfold qr at q;by_cases hb:b∈A
 ·rw[if_pos hb] at q
  cases hk:K.lookup b with
  | none=>exact⟨hb,Z⟩
  | some o=>
   rw[hk,if_neg (by simp)] at q;cases q
 rw[if_neg hb] at q;cases q
def Gm (ar :∀a∈A,uw h A a) (q:qr K h A b=some u):K.lookup b=none/\∃vs:List Value,vs.length<=sizeLine/\(∀u∈vs,CB A u)/\
  ((h.get? b=some { cls:=.type "list",data:=.seq vs.toArray }/\u=.u5 { cls:=.type "list",data:=.seq vs.toArray } (.lst (vs.map toV)))\/
   (h.get? b=some { cls:=.type "tuple",data:=.seq vs.toArray }/\u=.u5 { cls:=.type "tuple",data:=.seq vs.toArray } (.tup (vs.map toV)))):=by
 obtain⟨hb,hk⟩:=ZN q;obtain⟨vs,h1,h2,h3⟩:=ar b hb;refine⟨hk,vs,h1,h2,?_⟩;rcases h3 with e | e
 ·rw[Gk hb hk e,Nd] at q
  exact .inl ⟨e,(bN.inj q).symm⟩
 rw[Gk hb hk e,Nf] at q;exact .inr ⟨e,(bN.inj q).symm⟩
theorem TX (ar :∀a∈A,uw h A a):IY (qr K h A):=λb=>by
 cases q:qr K h A b with
 | none=>exact .inl rfl
 | some u=>
  obtain⟨_,vs,_,_,⟨_,e⟩ | ⟨_,e⟩⟩:=Gm ar q
  ·exact .inr ⟨_,_,by rw[e]⟩
  exact .inr ⟨_,_,by rw[e]⟩
theorem ZO (ar :∀a∈A,uw h A a):jq P w (qr K h A) h:=λb u q=>by
 obtain⟨_,vs,h1,h2,⟨e,rfl⟩ | ⟨e,rfl⟩⟩:=Gm ar q
 ·exact⟨e,by rw[ai];exact h1,vs,_,xt h2,e⟩
 exact⟨e,by rw[ai];exact h1,vs,xt h2,_,e,Z,_,Z⟩
def Gn {c c':Value} {vs us:List Value} (e:(some { cls:=c,data:=.seq vs.toArray }:Option Obj)=some { cls:=c',data:=.seq us.toArray }):c=c'/\vs=us:=by
 have e1:=bN.inj e;have e2:c=c':=congrArg Obj.cls e1;have e3:Data.seq vs.toArray=Data.seq us.toArray:=congrArg Obj.data e1;injection e3 with e4;refine⟨e2,?_⟩;have e5:=congrArg Array.toList e4;simpa using e5
def ag5 (KX:K.In h) (ar :∀a∈A,uw h A a) {a:Addr} {vs:List Value} (ha:a∈A) (e:h.get? a=some { cls:=.type "list",data:=.seq vs.toArray }):(∀u∈vs,CB A u)/\aO K (qr K h A) a (vs.map toV):=by
 obtain⟨us,h1,h2,h3⟩:=ar a ha;have hu:us=vs:=by
  rcases h3 with q | q
  ·rw[e] at q
   exact(Gn q).2.symm
  rw[e] at q;exact absurd (Value.type.inj (Gn q).1) (by decide)
 subst hu;refine⟨h2,?_⟩;cases hk:K.lookup a with
 | none=>exact .inl (.inr ⟨_,by rw[Gk ha hk e,Nd]⟩)
 | some o=>
  have e2:=KX a o hk;rw[e] at e2;obtain rfl:=bN.inj e2;exact .inr ⟨_,us.toArray,_,hk,Z,Z,Z,by rw[bz];exact h1,by simpa using xt h2⟩
def ag6 (KX:K.In h) (ar :∀a∈A,uw h A a) {a:Addr} {vs:List Value} (ha:a∈A) (e:h.get? a=some { cls:=.type "tuple",data:=.seq vs.toArray }):(∀u∈vs,CB A u)/\gN K (qr K h A) a (vs.map toV):=by
 obtain⟨us,h1,h2,h3⟩:=ar a ha;have hu:us=vs:=by
  rcases h3 with q | q
  ·rw[e] at q
   exact absurd (Value.type.inj (Gn q).1) (by decide)
  rw[e] at q;exact(Gn q).2.symm
 subst hu;refine⟨h2,?_⟩;cases hk:K.lookup a with
 | none=>exact .inl (.inr ⟨_,by rw[Gk ha hk e,Nf]⟩)
 | some o=>
  have e2:=KX a o hk;rw[e] at e2;obtain rfl:=bN.inj e2;exact .inr ⟨_,us.toArray,_,hk,Z,Z,by rw[bz];exact h1,by simpa using xt h2⟩
mutual
theorem acq {Pm:Params} (KX:K.In h) (ar :∀a∈A,uw h A a) :∀(d:WData) (v:Value),Well Pm h v d->Bu d=true->CB A v->Dw K (qr K h A) (toV v) d
 | .none,_,x,_,_=>by
  cases x;exact .cj
 | .bool b,_,x,_,_=>by
  cases x;exact .bl b
 | .int i,_,x,_,_=>by
  cases x;exact .int i
 | .str s,_,x,_,_=>by
  cases x;exact .str s
 | .bytes b,_,x,_,_=>by
  cases x;have z:=Dw.vK (K:=K) (H:=qr K h A) b.toArray;exact z
 | .list ds,_,x,p,hu=>by
  obtain⟨a,vs,rfl,ho,xu⟩:=Lf x;obtain⟨h2,hs⟩:=ag5 KX ar hu ho;exact .lst hs (IZ KX ar ds _ xu p h2)
 | .tuple ds,_,x,p,hu=>by
  obtain⟨a,vs,rfl,ho,xu⟩:=IX x;obtain⟨h2,hs⟩:=ag6 KX ar hu ho;exact .tup hs (IZ KX ar ds _ xu p h2)
 | .float _,_,_,p,_=>fe (show false=true from p)
 | .dict _,_,_,p,_=>fe (show false=true from p)
 | .bytearray _,_,_,p,_=>fe (show false=true from p)
 | .set _,_,_,p,_=>fe (show false=true from p)
 | .frozenset _,_,_,p,_=>fe (show false=true from p)
 | .obj _ _,_,_,p,_=>fe (show false=true from p)
theorem IZ (KX:K.In h) (ar :∀a∈A,uw h A a) :∀(ds:List WData) (vs:List Value),WellAll Pm h vs ds->yB ds=true->(∀u∈vs,CB A u)->oW K (qr K h A) (vs.map toV) ds
 | [],_,x,_,_=>by
  cases x;exact .nil
 | d::ds,_,x,p,hu=>by
  obtain⟨v,vs,rfl,x1,x2⟩:=Lg x;have q:Bu d=true/\yB ds=true:=Bool.and_eq_true_iff.mp p;exact .cons (acq KX ar d v x1 q.1 (hu _ (dH ..))) (IZ KX ar ds vs x2 q.2 λu m=>hu u (b7 _ m))
end
end
def TY {P:Program} {w:World} {K:ak} {mg mb:Str->Option Value}
  (KX:K.In s₁.heap) (p7:s₁.heap.Ns mainGlobals mg) (hb:s₁.heap.Ns builtinsNs mb) (hbb :∀x:Str,x≠"__name__"->mb x=bootBuiltins x) (ag7:s₁.heap.NoLimit) (hg:s₁.gens = #[])
  (TZ:WellAll w.params s₁.heap iI ds) (iT:yB ds=true) (hwt :∀d∈ds,d.weight<=1048576) (hr:fL k callerA)
  (F :∀aS:Heap,K.In aS->aS.Ns mainGlobals mg->gH P w K mg aS CX k fa fd ps sp) (aeJ :∀(s:Shared) (us:List Value),us.length=ps.length->BindsTo s fd ⟨us,[]⟩ (ps.zip us)) (eP:ds.length=ps.length)
  (Br :∀(H:Hp) (xs:List V),IY H->oW K H xs ds->sp xs H (λv H'=>Dw K H' v d0) λ_ _ _=>False)
  (T1 :∀H e s',CX [] H s₁ (λ_ _ _=>False) e s'->False) :
  codeAny (model P w) callerA (.call (.ref fa) ⟨iI,[]⟩) (λr s'=>∃u as,r=.ok (.ret u)/\ReadsW R cl s'.heap u d0 as/\OldK s₁.heap s'.heap/\s'.os=s₁.os/\AllBare s'.gens) s₁:=by
 obtain⟨A,ho,ar⟩:=Dy ds iI TZ iT hwt;have hO:IY (qr K s₁.heap A):=TX ar;have cM:jq P w (qr K s₁.heap A) s₁.heap:=ZO ar;have hS:=IZ KX ar ds iI TZ iT ho;have hV:=xt ho;have hK :∀b u,qr K s₁.heap A b=some u->K.lookup b=none:=λb u q=>(Gm ar q).1;have PQ :∀{b:Addr} {o:Obj} {es:Array DictEntry} {ep:Nat},s₁.heap.get? b=some o->o.data=.dict es ep->qr K s₁.heap A b=none:=λ{b o es ep} e d=>by
  cases q:qr K s₁.heap A b with
  | none=>rfl
  | some u=>
   obtain⟨_,vs,_,_,⟨e2,_⟩ | ⟨e2,_⟩⟩:=Gm ar q
   ·rw[e2] at e
    cases e;have d':Data.seq vs.toArray _=Data.dict es ep:=d;cases d'
   rw[e2] at e;cases e;have d':Data.seq vs.toArray _=Data.dict es ep:=d;cases d'
 generalize qr K s₁.heap A=H at hO cM hS hK PQ;have P6 :∀{b:Addr} {o:Obj},s₁.heap.get? b=some o->H b=none->(Dg s₁.heap H).get? b=some o:=λe n=>VF e n;have Yi :∀{b:Addr} {m:Str->Option Value},s₁.heap.Ns b m->(Dg s₁.heap H).Ns b m:=λ{b m} ⟨o,es,ep,e,d,r⟩=>⟨o,es,ep,P6 e (PQ e d),d,r⟩
 have nK :∀b o,K.lookup b=some o->H b=none:=λb o e=>by
  cases q:H b with
  | none=>rfl
  | some u=>
   rw[hK b u q] at e;cases e
 have hKb:K.In (Dg s₁.heap H):=λb o e=>P6 (KX b o e) (nK b o e);have hM:Mod K mg (Dg s₁.heap H):=⟨hKb,Yi p7,⟨mb,Yi hb,hbb⟩,let⟨mc,h1,h2⟩:=ag7;⟨mc,Yi h1,h2⟩⟩
 have e0:HK P w K mg (Dg s₁.heap H) callerA [] s₁ H:=⟨Z,hM,λb o e=>Za e,Ba (Ta _ _),trivial,λb hb=>absurd (show b∈([]:List Addr) from hb) (by simp),cM,.of_eq hg⟩
 have hl:iI.length=ps.length:=by rw[xX TZ];exact eP
 refine codeAny_mono ((F _ hKb (Yi p7)).run callerA [] s₁ H ⟨iI,[]⟩ iI (iI.map toV) _ _ hr e0 (aeJ s₁ iI hl) hV (Br H _ hO hS)) λr s' x=>?_;cases r with
 | error e=>exact(T1 H e s' x).elim
 | ok fl=>
  cases fl with
  | next=>exact False.elim x
  | brk=>exact False.elim x
  | cont=>exact False.elim x
  | ret u=>
   obtain⟨v,H',os,bare,un,acr,r',q⟩:=x;have kept :∀b o,s₁.heap.get? b=some o->s'.heap.get? b=some o:=λb o e=>by
    cases q2:H b with
    | none=>exact un.keep b o e q2 (by intro z;exact absurd (show b∈([]:List Addr) from z) (by simp)) (by simp)
    | some u2=>
     rcases hO b with z | ⟨ob,u3,z⟩
     ·rw[q2] at z
      cases z
     have z2:=un.vL b ob _ z;obtain⟨e1,_⟩:=cM b _ z;obtain⟨e2,_⟩:=acr b _ z2;rw[e] at e1;cases e1;exact e2
   have KX':K.In s'.heap:=λb o e=>kept b o (KX b o e);obtain⟨as,hrd⟩:=Dw.reads (R:=R) (cl:=cl) acr KX' d0 v u q r';exact⟨u,as,Z,hrd,OldK.of_keep kept,os,bare⟩
theorem Kg (h:WData.layableAll ds=true) :∀d∈ds,d.weight<=1048576:=λd hd=>
 (PySem.W.layableW_iff.mp (fZ.mp h d hd)).2.2
theorem I0 :∀(cs:List Codec) (a:Codec.denoteAll cs),(Codec.encAll cs a).length=cs.length
 | [],_=>rfl
 | c::cs,a=>by
  show(Codec.encAll cs a.2).length+1=cs.length+1;rw[I0 cs a.2]
def T2 {r:OpenSpec} {k:Nat} {q:Program} {loose:List Str} {XP:(Str->Option Value)->Heap->Prop} {YP:World->Heap->Prop} {d:DefRec} {K:Params->ak} {CX:World->zY} {ps:List Str} {sp:World->Sp}
  (RY:r.wellSaid=true) (Yj:d.params.defaults=[]) (eP:r.args.length=ps.length) (hr:fL k callerA)
  (hY :∀(w:World) (h:Heap),YP w h->(K w.params).In h)
  (F :∀(w:World) (mg:Str->Option Value) (fa:Addr) (h:Heap),YP w h->(K w.params).In h->h.Ns mainGlobals mg->mg d.name=some (.ref fa)->
   ∃fd:FuncData,(∀(s:Shared) (us:List Value),us.length=ps.length->BindsTo s fd ⟨us,[]⟩ (ps.zip us))/\
    ∀aS:Heap,(K w.params).In aS->aS.Ns mainGlobals mg->gH r.prog w (K w.params) mg aS (CX w) k fa fd ps (sp w))
  (Br :∀(w:World) (H:Hp) (xs:List V) (a:Codec.denoteAll r.args),IY H->Codec.withinAll r.args a=true->Codec.app r.args r.asked a=true->oW (K w.params) H xs (Codec.encAll r.args a)->
   sp w xs H (λv H'=>Dw (K w.params) H' v (r.ret.enc (Codec.app r.args r.f a))) λ_ _ _=>False)
  (T1 :∀(w:World) (H:Hp) (s:Shared) (e:Value) (s':Shared),CX w [] H s (λ_ _ _=>False) e s'->False) :
  PySem.W.WalkOS q loose XP YP r d [] (λf vs=>PySem.call f vs):=by
 intro w mH s₁ mg mb G Y fa o pm cd doc dV kV ho hd rF hD Yk hg args iI as ag8 ag9 hrd TZ P7;obtain⟨a,e1,e2⟩:=PySem.W.os_pre_some ag8;obtain⟨e3,Lh⟩:=Codec.encAll_of_decAll r.args args a e1;subst e3;have KX:=hY w _ Y;obtain⟨fd,hb,hF⟩:=F w mg fa _ Y KX G.T.g Yk;refine PySem.W.enter_call (codeAny_mono (TY (R:=[]) (cl:=classAt mH.heap) (d0:=r.ret.enc (Codec.app r.args r.f a)) KX G.T.g G.T.b G.T.builtins G.T.nolimit hg TZ (Le _ _) (Kg ag9) hr hF hb (by rw[I0];exact eP)
  (λH xs hO hS=>Br w H xs a hO Lh e2 hS) λH e s'=>T1 w H s₁ e s') λr' s' hq=>?_)
 obtain⟨u,qf,rfl,h1,h2,h3,h4⟩:=hq;exact⟨.inl ⟨u,_,qf,Z,λ_=>rfl,h1,(OpenSpec.post_iff RY Lh _ _).mpr rfl,λz=>fe (show false=true from z)⟩,h2,h3,h4⟩
theorem RZ {r:OpenSpec} {k:Nat} {q:Program} {loose:List Str} {XP:(Str->Option Value)->Heap->Prop} {YP:World->Heap->Prop} {d:DefRec} {K:Params->ak} {CX:zY} {ps:List Str} {sp:ak->Sp}
  (RY:r.wellSaid=true) (Yj:d.params.defaults=[]) (eP:r.args.length=ps.length) (hr:fL k callerA)
  (hY :∀(w:World) (h:Heap),YP w h->(K w.params).In h)
  (F :∀(w:World) (mg:Str->Option Value) (fa:Addr) (h:Heap),YP w h->(K w.params).In h->h.Ns mainGlobals mg->mg d.name=some (.ref fa)->
   ∃fd:FuncData,(∀(s:Shared) (us:List Value),us.length=ps.length->BindsTo s fd ⟨us,[]⟩ (ps.zip us))/\
    ∀aS:Heap,(K w.params).In aS->aS.Ns mainGlobals mg->gH r.prog w (K w.params) mg aS CX k fa fd ps (sp (K w.params)))
  (Br :∀(K:ak) (H:Hp) (xs:List V) (a:Codec.denoteAll r.args),IY H->Codec.withinAll r.args a=true->Codec.app r.args r.asked a=true->oW K H xs (Codec.encAll r.args a)->
   sp K xs H (λv H'=>Dw K H' v (r.ret.enc (Codec.app r.args r.f a))) λ_ _ _=>False)
  (T1 :∀(H:Hp) (s:Shared) (e:Value) (s':Shared),CX [] H s (λ_ _ _=>False) e s'->False) :
  PySem.W.WalkOS q loose XP YP r d [] (λf vs=>PySem.call f vs):=
 T2 (K:=K) (CX:=λ_=>CX) (sp:=λw=>sp (K w.params)) RY Yj eP hr hY F (λw H xs a h1 h2 h3 h4=>Br (K w.params) H xs a h1 h2 h3 h4) λ_ H s e s'=>T1 H s e s'
end L2
namespace XX
open PySem
def XO (h:Heap) (N:Addr->Prop) (x C dx:Addr) (fl:Option Value):Prop:=
 ∃oe vs,h.get? x=some oe/\oe.cls=.ref C/\oe.dict=some dx/\oe.data=.fields vs/\N x/\match fl with
  | none=>vs[1]?=some .none
  | some f=>∃T oT ts,vs[1]?=some (.ref T)/\T≠x/\N T/\h.get? T=some oT/\oT.data=.fields ts/\ts[3]?=some f
structure Kp (N:Addr->Prop) (fr:List Addr) (h h':Heap):Prop where
 same :∀b o,h.get? b=some o->¬ N b->b∉fr->h'.get? b=some o
 slot :∀b o,h.get? b=some o->(∀vs,o.data≠.fields vs)->∃sl,h'.get? b=some { o with slots:=sl }
 size:h.objs.size<=h'.objs.size
theorem Kp.trans (a:Kp N fr h1 h2) (b:Kp N fr h2 h3):Kp N fr h1 h3:=
 ⟨λc o e n m=>b.same c o (a.same c o e n m) n m,λc o e n=>by
  obtain⟨sl,e1⟩:=a.slot c o e n;obtain⟨K9,e2⟩:=b.slot c _ e1 n;exact⟨K9,e2⟩,c8 a.size b.size⟩
section
variable {M:Model} {A:Around} {E:Value->Shared->Prop} {s:Shared} {N:Addr->Prop} {x C dx:Addr}
def P8 {aS:Heap}
  (mV:A.frames=some (env::outer)) (hl:s.heap.FunFrames aS (env::outer)) (hf:env.frame=some L)
  (hx:s.heap.get? x=some oe) (hc:oe.cls=.ref C) (iV:oe.dict=some dx) (hd:oe.data=.fields vs) (hn:N x) (hsz:1 < vs.size) (B5 :∀b,s.heap.objs.size<=b->N b)
  (h :∀h',XO h' N x C dx (some (rawInt L))->Kp N ((env::outer).filterMap (·.frame)) s.heap h'->Q () { s with heap:=h' }) :
  wpAny M A (do let a <- frameOf env;let pl <- entryPlaceOf L had;let b <- EntryCells.newEntry head a .none (rawInt L) .none pl;setField (.ref x) 1 b) Q E s:=by
 have nf:x∉(env::outer).filterMap (·.frame):=by
  intro hm;obtain⟨_,o1,ho1,E3⟩:=hl.mem hm;rw[hx] at ho1;cases ho1;exact E3 vs hd
 refine wpAny_bind (wpAny_frameOf_fun mV hl hf λg1 S1=>?_);refine wpAny_bind (wpAny_entryPlaceOf λpl iT=>?_);unfold EntryCells.newEntry newFields;refine wpAny_bind (wpAny_newObj_type ?_ (iT.sizeOk5 _ _ _ _ _));have E4:g1.get? x=some oe:=(S1.2.1 x nf).trans hx;generalize T3:({ cls:=.type "traceback",dict:=none,data:=.fields ([head,.ref L,.none,rawInt L,.none]++(if pl.isEmpty then List.replicate 6 Value.none else pl)).toArray }:Obj)=ob;have aha :∃ts,ob.data=.fields ts/\ts[3]?=some (rawInt L):=by
  subst T3;refine⟨_,Z,?_⟩;rcases iT with rfl | ⟨_,_,_,_,_,_,_,rfl⟩ <;> simp
 have acu:ob.isFreed=false:=by subst T3;rfl
 have GV:=bC (h:=g1) ob E4;refine wpAny_setField GV hd hsz (h _ ?_ ?_)
 ·have ne:g1.objs.size≠x:=Nat.ne_of_gt (bH E4)
  have d3:=Obj.data_mapFields hd (·.setIfInBounds 1 (Value.ref g1.objs.size));obtain⟨ts,e1,e2⟩:=aha;refine⟨_,_,pW _ GV (Obj.isFreed_of_fields d3),(Obj.cls_mapFields _ _).trans hc,?_,d3,hn,g1.objs.size,ob,ts,by simp[hsz],ne,B5 _ (by rw[S1.1];exact aN _),?_,e1,e2⟩
  ·obtain⟨a1,a2,a3,a4⟩:=oe
   cases a3 <;> exact iV
  rw[gY _ _ (Ne.symm ne)];exact dt g1 acu
 have other :∀b o,b≠x->g1.get? b=some o->((g1.push ob).update x (Obj.mapFields (·.setIfInBounds 1 (Value.ref g1.objs.size)))).get? b=some o:=λb o hb e=>by
  rw[gY _ _ (Ne.symm hb)];exact bC _ e
 refine⟨λb o e hb hm=>other b o (λz=>hb (by rw[z];exact hn)) ((S1.2.1 b hm).trans e),λb o e E3=>?_,?_⟩
 ·obtain⟨sl,e1⟩:=S1.2.2 b o e
  exact⟨sl,other b _ (λz=>by subst z;rw[hx] at e;cases e;exact E3 vs hd) e1⟩
 rw[oK];show _<=(g1.objs.push ob).size;rw[Array.size_push,S1.1]
 lia
def Ng {aS:Heap}
  (mV:A.frames=some (env::outer)) (hl:s.heap.FunFrames aS (env::outer)) (hf:env.frame=some L) (hx:XO s.heap N x C dx fl) (qJ:fl=none\/fl=some .none) (B5 :∀b,s.heap.objs.size<=b->N b)
  (h :∀h',XO h' N x C dx (some (rawInt L))->Kp N ((env::outer).filterMap (·.frame)) s.heap h'->Q () { s with heap:=h' }) :
  wpAny M A (noteFrame (.ref x) env) Q E s:=by
 obtain⟨oe,vs,e1,hc,iV,hd,hn,r⟩:=hx;unfold noteFrame;simp only[hf];rcases qJ with rfl | rfl
 ·have r':vs[1]?=some Value.none:=r
  refine wpAny_bind (wpAny_field e1 hd r' ?_);rw[if_neg (by decide)];exact P8 mV hl hf e1 hc iV hd hn (lW.mp r').1 B5 h
 obtain⟨T,oT,ts,r',hT,P9,eT,Li,h3⟩:=r;refine wpAny_bind (wpAny_field e1 hd r' ?_);rw[if_pos (show(Value.ref T != Value.none)=true from by simp)];refine wpAny_bind (wpAny_field eT Li h3 ?_);rw[if_neg (show ¬ ((Value.none == rawInt L)=true) from by simp[rawInt])];refine wpAny_bind (wpAny_setField eT Li (lW.mp h3).1 ?_);have ot :∀b,b≠T->(s.heap.update T (Obj.mapFields (·.setIfInBounds 3 Value.none))).get? b=s.heap.get? b:=λb hb=>gY _ _ (Ne.symm hb);have nt :∀b o,s.heap.get? b=some o->(∀ws,o.data≠.fields ws)->b≠T:=by
  intro b o e E3 z;rw[z,eT] at e;cases e;exact E3 ts Li
 have k1:Kp N ((env::outer).filterMap (·.frame)) s.heap (s.heap.update T (Obj.mapFields (·.setIfInBounds 3 Value.none))):=
  ⟨λb o e hb _=>(ot b λz=>hb (by rw[z];exact P9)).trans e,λb o e E3=>⟨o.slots,(ot b (nt b o e E3)).trans e⟩,by rw[oK];exact aN _⟩
 refine P8 (s:={ s with heap:=s.heap.update T (Obj.mapFields (·.setIfInBounds 3 Value.none)) }) mV (hl.of_keeps λb o e E3=>⟨o,(ot b (nt b o e E3)).trans e,Z⟩) hf ((ot x (Ne.symm hT)).trans e1) hc iV hd hn
  (lW.mp r').1 (λb hb=>B5 b (by rw[oK] at hb;exact hb)) λh' X' K'=>h h' X' (k1.trans K')
def Aa (hx:XO s.heap N x C dx (some f))
  (h :∀h',XO h' N x C dx (some .none)->Kp N fr s.heap h'->Q () { s with heap:=h' }):wpAny M A (setFlight (.ref x) none) Q E s:=by
 obtain⟨oe,vs,e1,hc,iV,hd,hn,T,oT,ts,r',hT,P9,eT,Li,h3⟩:=hx;have hsz:=(lW.mp h3).1;unfold setFlight;refine wpAny_bind (wpAny_field e1 hd r' ?_);rw[if_pos (show(Value.ref T != Value.none)=true from by simp)];refine wpAny_setField eT Li hsz (h _ ?_ ?_)
 ·refine⟨oe,vs,(gY _ _ hT).trans e1,hc,iV,hd,hn,T,_,_,r',hT,P9,pW _ eT (Obj.isFreed_of_fields (Obj.data_mapFields Li _)),Obj.data_mapFields Li _,by simp[hsz]⟩
 have ot :∀b,b≠T->(s.heap.update T (Obj.mapFields (·.setIfInBounds 3 ((none:Option Addr).elim Value.none λf=>rawInt f)))).get? b=s.heap.get? b:=λb hb=>gY _ _ (Ne.symm hb);refine⟨λb o e hb _=>(ot b λz=>hb (by rw[z];exact P9)).trans e,λb o e E3=>⟨o.slots,(ot b λz=>?_).trans e⟩,by rw[oK];exact aN _⟩;rw[z,eT] at e;cases e;exact E3 ts Li
def ZP {aS:Heap}
  (mV:A.frames=some (env::outer)) (hl:s.heap.FunFrames aS (env::outer)) (hf:env.frame=some L) (hx:XO s.heap N x C dx fl) (qJ:fl=none\/fl=some .none) (B5 :∀b,s.heap.objs.size<=b->N b)
  (h :∀h',XO h' N x C dx (some .none)->Kp N ((env::outer).filterMap (·.frame)) s.heap h'->Q () { s with heap:=h' }) :
  wpAny M A (leaving env (.ref x)) Q E s:=by
 unfold leaving;refine wpAny_bind (Ng mV hl hf hx qJ B5 λh1 X1 K1=>?_);exact Aa (s:={ s with heap:=h1 }) (fr:=(env::outer).filterMap (·.frame)) X1 λh2 X2 K2=>h h2 X2 (K1.trans K2)
end
end XX
namespace XX
open PySem
open Sem (wp)
section
variable {prog:Program} {w:World} {A:Around} {E:Value->Shared->Prop} {h:Heap} {g:Array GenState} {d:Drawn} {t:Nat} {os:OsState} {x dx:Addr} {o:Obj} {vs:Array Value}
 {nm q:Str} {C N:Addr} {bs bm:List Value} {sn:List Str} {sub:List Value} {ab:Bool} {col:Option Bool} {dd:Option Addr} {k0 k1 k2 k3 k5:Option Value} {newId:String} {mN mA:Str->Option Value} {name:Str} {v:Value}
theorem Wh (FB:ExcAttrBase "Exception" bm) (hC:h.get? C=some (excClassObj nm q C N bs bm true sn sub ab col dd k0 k1 k2 k3 k5 newId))
  (hx:h.get? x=some o) (hc:o.cls=.ref C) (hq:Q () ⟨h,g,d,t,os⟩):wpAny M A (checkBuiltinCall "BaseException.__getattribute__" ⟨[.ref x,amC],[]⟩) Q E ⟨h,g,d,t,os⟩:=
 wpAny_check_ga_own FB hC .«base» hx hc hq
def Wi (FB:ExcAttrBase "Exception" bm) (hC:h.get? C=some (excClassObj nm q C N bs bm true sn sub ab col dd k0 k1 k2 k3 k5 newId)) (hN:h.Ns N mN) (yi:mN name=none)
  (hB:typeLookup (.type "Exception") name=pure none) (hx:h.get? x=some o) (hc:o.cls=.ref C) (hd:o.data=.fields vs) (iV:o.dict=some dx) (p7:h.Ns1 dx mA) (hv:mA name=some v) (hq:Q (.done (.ret v)) ⟨h,g,d,t,os⟩) :
  wpAny (model prog w) A (Builtin.«object.__getattribute__» ⟨[.ref x,.str name tk],[]⟩) Q E ⟨h,g,d,t,os⟩:=by
 have fm:=FB.mro;repeat (any_goals (first | assumption | (with_reducible refine wpAny_loadPart_at hx ?_;rw[hc]) | (with_reducible refine wpAny_typeLookup_exc hC hN fm hB ?_;rw[yi]) | wp_step))
 rw[hd];unfold instanceDict;repeat (first | (with_reducible refine wpAny_loadPart_at hx ?_;rw[hc]) | with_reducible refine wpAny_loadPart_at hC ?_ | wp_step)
 rw[iV];repeat (first | (with_reducible refine wpAny_nsGet p7.ns ?_;rw[hv]) | wp_step)
 exact hq
theorem ZQ (FB:ExcAttrBase "Exception" bm) (hC:h.get? C=some (excClassObj nm q C N bs bm true sn sub ab col dd k0 k1 k2 k3 k5 newId)) (hN:h.Ns N mN) (yi:mN name=none)
  (hB:typeLookup (.type "Exception") name=pure none) (hx:h.get? x=some o) (hc:o.cls=.ref C) (hd:o.data=.fields vs) (iV:o.dict=some dx) (p7:h.Ns1 dx mA) (hv:mA name=some v) (hq:R (.ok (.ret v)) ⟨h,g,d,t,os⟩) :
  codeAny (model prog w) A (.call (.builtin "BaseException.__getattribute__") ⟨[.ref x,.str name tk],[]⟩) R ⟨h,g,d,t,os⟩:=
 codeAny_call_builtin FB.ga.plain F.entry_bexc_ga (Wh FB hC hx hc (Wi FB hC hN yi hB hx hc hd iV p7 hv hq))
def aeK (FB:ExcAttrBase "Exception" bm) (hC:h.get? C=some (excClassObj nm q C N bs bm true sn sub ab col dd k0 k1 k2 k3 k5 newId)) (hN:h.Ns N mN) (h1:mN "__getattribute__" = none) (h2:mN "__getattr__" = none)
  (yi:mN name=none) (hB:typeLookup (.type "Exception") name=pure none) (hx:h.get? x=some o) (hc:o.cls=.ref C) (hd:o.data=.fields vs) (iV:o.dict=some dx) (p7:h.Ns1 dx mA) (hv:mA name=some v) (hh:handedOut v=pure v) (hq:Q v ⟨h,g,d,t,os⟩) :
  wpAny (model prog w) A (getAttrBy (.ref x) (.str name tk) fill expr) Q E ⟨h,g,d,t,os⟩:=by
 have f3:=FB.ga.bind (.ref x);have fm:=FB.mro;have z0:(expr&&onTheHeap (Value.builtin "BaseException.__getattribute__"))=false:=by cases expr <;> rfl
 have z2:(Value.builtin "BaseException.__getattribute__" == Value.builtin "object.__getattribute__")=false:=by decide
 have z1:(onTheHeap (Value.ref C)&&Value.builtin "BaseException.__getattribute__" == Value.builtin "object.__getattribute__")=false:=by rw[z2];rfl
 repeat (any_goals (first | assumption | (with_reducible refine wpAny_loadPart_at hx ?_;rw[hc]) | (with_reducible refine wpAny_typeLookup_exc hC hN fm FB.ga.lookup ?_;rw[h1]) | (with_reducible refine wpAny_typeLookup_exc hC hN fm FB.noGetattr ?_;rw[h2]) | wp_step))
 refine ZQ FB hC hN yi hB hx hc hd iV p7 hv ?_;repeat (any_goals (first | assumption | (rw[hh]) | wp_step))
def acv (FB:ExcAttrBase "Exception" bm) (hC:h.get? C=some (excClassObj nm q C N bs bm true sn sub ab col dd k0 k1 k2 k3 k5 newId)) (hN:h.Ns N mN) (h1:mN "__getattribute__" = none) (h2:mN "__getattr__" = none)
  (yi:mN name=none) (hB:typeLookup (.type "Exception") name=pure none) (hx:h.get? x=some o) (hc:o.cls=.ref C) (hd:o.data=.fields vs) (iV:o.dict=some dx) (p7:h.Ns1 dx mA) (hv:mA name=some v) (hh:handedOut v=pure v) (hq:Q v ⟨h,g,d,t+1,os⟩) :
  wpAny (model prog w) A (getAttr (.ref x) name expr) Q E ⟨h,g,d,t,os⟩:=by
 unfold getAttr;repeat (any_goals (first | assumption | with_reducible apply aeK FB hC hN h1 h2 yi hB hx hc hd iV p7 hv hh | wp_step))
end
end XX
namespace XX
open PySem
open Sem (wp)
open Builtin Builtin.ObjectAttr
section
variable {prog:Program} {w:World} {A:Around} {E:Value->Shared->Prop} {h:Heap} {g:Array GenState} {d:Drawn} {t:Nat} {os:OsState}
 {mN:Str->Option Value} {name:Str} {v:Value} {o:Obj}
def T4 (SF:StoreFacts B bm sa owner)
  (hC:h.get? C=some (excClassObj nm q C N bs bm true sn sub ab col dd k0 k1 k2 k3 k5 newId)) (hn:h.Ns N mN) (yi:mN name=none)
  (hB:typeLookup (.type B) name=pure none) (hx:h.get? x=some o) (hc:o.cls=.ref C) (hnc :∀c,o.data≠.cls c) (yj:o.dict=none)
  (hq :∀h' Ja,h'.get? x=some { o with dict:=some h.objs.size }->h'.Ns1 h.objs.size (λy=>if y=name then some v else none)->(∀b u,b≠x->h.get? b=some u->h'.get? b=some u)->Q (.done (.ret .none)) ⟨h',g,d,Ja,os⟩) :
  wpAny (model prog w) A (Builtin.«object.__setattr__» ⟨[.ref x,.str name tk,v],[]⟩) Q E ⟨h,g,d,t,os⟩:=by
 have aeL:=SF.passes (.ref x);unfold Builtin.«object.__setattr__»;repeat (first | rw[refuse_eq] | (rw[refuseLoop_ref,aeL]) | (with_reducible refine wpAny_loadPart_at hx ?_;rw[hc]) | with_reducible refine wpAny_mroOf_exc hC ?_ | (with_reducible refine wpAny_typeLookup_exc hC hn SF.mro hB ?_;rw[yi]) | wp_step)
 rw[yj,if_neg (by simp[typeHasDict])];split
 ·rename_i z
  cases z
 split
 ·rename_i c z
  exact absurd z (hnc c)
 have x1:(h.push { cls:=.type "dict",data:=.dict #[] }).get? x=some o:=bC _ hx;have xs:x≠h.objs.size:=dR (bH hx);refine wpAny_bind (wpAny_alloc' ?_);refine wpAny_bind (wpAny_update' x1 ?_);refine wpAny_pure ?_;have gd:((h.push { cls:=.type "dict",data:=.dict #[] }).update x λo=>{ cls:=o.cls,dict:=some h.objs.size,data:=o.data,slots:=o.slots }).get? h.objs.size=some { cls:=.type "dict",data:=.dict #[] }:=
  (Heap.get?_update_ne _ _ _ _ xs.symm).trans (Heap.get?_push_at rfl rfl)
 have nd:((h.push { cls:=.type "dict",data:=.dict #[] }).update x λo=>{ cls:=o.cls,dict:=some h.objs.size,data:=o.data,slots:=o.slots }).Ns h.objs.size (λ_=>none):=
  ⟨_,#[],_,gd,Z,λe he=>absurd he (by simp),λ_=>rfl⟩
 show wpAny _ _ (storeInDict h.objs.size (.str name tk) name v) _ _ _;unfold storeInDict newKeyGuard;refine wpAny_bind (wpAny_pure (wpAny_bind (wpAny_nsSet1 (Heap.Ns1.of_empty nd) λh' n1 hs=>?_)));obtain⟨oD,esD,epD,hoD,hdD,hcD⟩:=n1.count (Within.cons name v Within.nil);refine wpAny_bind (wpAny_lookBehind hoD (by rw[hdD];exact pastItsLine_dict (c8 hcD (by rw[aV,ie,sizeLine_eq];lia))) ?_)
 wp_walk
 refine hq h' _ ?_ n1 (λb ob hbx hb=>(hs.2 b (dR (bH hb))).trans ((Heap.get?_update_ne _ _ _ _ hbx).trans (bC _ hb)));refine(hs.2 x xs).trans (pW _ x1 ?_);have mV:=(Heap.get?_some_iff.mp hx).2;obtain⟨oc,od,odt,tL⟩:=o;cases odt <;> first | rfl | exact mV
def Wj (SF:StoreFacts B bm sa owner)
  (hC:h.get? C=some (excClassObj nm q C N bs bm true sn sub ab col dd k0 k1 k2 k3 k5 newId)) (hn:h.Ns N mN) (p7:mN "__setattr__" = none) (yi:mN name=none)
  (hB:typeLookup (.type B) name=pure none) (hx:h.get? x=some o) (hc:o.cls=.ref C) (hnc :∀c,o.data≠.cls c) (yj:o.dict=none)
  (hq :∀h' Ja,h'.get? x=some { o with dict:=some h.objs.size }->h'.Ns1 h.objs.size (λy=>if y=name then some v else none)->(∀b u,b≠x->h.get? b=some u->h'.get? b=some u)->Q () ⟨h',g,d,Ja,os⟩) :
  wpAny (model prog w) A (setAttr (.ref x) name v) Q E ⟨h,g,d,t,os⟩:=by
 have f3:=SF.slot.bind (.ref x);unfold setAttr callSpecial? specialOf;repeat (any_goals (first | assumption | (with_reducible refine wpAny_loadPart_at hx ?_;rw[hc]) | (with_reducible refine wpAny_typeLookup_exc hC hn SF.mro SF.slot.lookup ?_;rw[p7]) | wp_step))
 refine codeAny_call_builtin SF.slot.plain SF.entry (wpAny_check_sa SF hC hx hc (T4 SF hC hn yi hB hx hc hnc yj λh' Ja a1 a2 a3=>?_));repeat (any_goals (first | assumption | wp_step))
 exact hq h' Ja a1 a2 a3
end
section
def ZR (kH:bm.contains (.type "BaseException")=true) (hh:A.handled=none)
  (h:wpAny M A t (λv s1=>∃x o vs,v=.ref x/\s1.heap.get? C=some (excClassObj nm q C N bs bm hdct sn sub ab col dd k0 k1 k2 k3 k5 newId)/\
   s1.heap.get? x=some o/\o.cls=.ref C/\o.data=.fields vs/\vs[1]?=some .none/\E (.ref x) s1) E s) :
  wpAny M A (raiseStmt env (some t) none) Q E s:=by
 have hcB:(Value.ref C::bm).contains (.type "BaseException")=true:=by rw[jx,kH,jN]
 unfold raiseStmt;refine wpAny_bind (wpAny_mono h (λv s1 h1=>?_) λ_ _ z=>z);obtain⟨x,o,vs,rfl,hC,hx,hc,hd,e1,hE⟩:=h1;obtain⟨hp,g,d,tk,os⟩:=s1;obtain⟨oc,od,odt,tL⟩:=o;dsimp only at hc hd;subst hc hd;repeat (first | with_reducible refine wpAny_loadPart_at hx ?_ | with_reducible refine wpAny_loadPart_at hC ?_ | (with_reducible refine wpAny_isSubtype_exc hC ?_;rw[hcB]) | with_reducible refine wpAny_field hx rfl e1 ?_ | wp_step)
 exact wpAny_raiseNew_none hh hE
end
end XX
namespace L2
open PySem PySem.Spec PyProof.Rows
def Nw (h0:Heap) (H:Hp):Addr->Prop:=λb=>h0.get? b=none/\H b=none
def gC (P:Program) (w:World):zY:=λouter H s E e s'=>∃(x C dx:Addr) (H':Hp),e=.ref x/\s'.os=s.os/\AllBare s'.gens/\Un (rV outer) [] H H' s.heap s'.heap/\jq P w H' s'.heap/\
 XX.XO s'.heap (Nw s.heap H') x C dx (some .none)/\E (.ref C) (some dx) H'
def jq.kp {P:Program} {w:World} (x:jq P w H h) (k:XX.Kp N fr h h') (hn :∀b,N b->H b=none) (hf :∀b∈fr,H b=none):jq P w H h':=λa o e=>by
 have st :∀b u,(b=a\/H b=some (.own a))->h.get? b=some u->h'.get? b=some u:=λb u hb q=>by
  have ne:H b≠none:=by
   rcases hb with rfl | hb
   ·rw[e];exact λz=>nomatch z
   rw[hb];exact λz=>nomatch z
  exact k.same b u q (λz=>ne (hn b z)) λz=>ne (hf b z)
 exact(x a o e).zV st (λ_ q=>q) λ_ _ q=>q
section
theorem Inv.Nh (I:Inv X af σ H s) (hb:s.heap.objs.size<=b):Nw X.mH.heap H b:=
 ⟨Heap.get?_none_of_le (c8 I.sz hb),I.cM.fresh hb⟩
def Inv.kp (I:Inv X af σ H s) (hex:X.ex=[]) {h':Heap} {fr:List Addr} (k:XX.Kp (Nw X.mH.heap H) fr s.heap h') (mV :∀b∈fr,b∈rV X.stack):Un X.fs [] X.Py H X.mH.heap h':=by
 have u:=I.aS;rw[hex] at u;have T5 :∀b o,X.mH.heap.get? b=some o->¬ Nw X.mH.heap H b:=λb o e z=>by rw[z.1] at e;cases e
 have ahb :∀b o,X.mH.heap.get? b=some o->b≠X.env.locals:=λb o e z=>by
  rw[z] at e;exact absurd (bH e) (J1.mpr I.ok.above)
 have ahc :∀b o,X.mH.heap.get? b=some o->b∈fr->b∈X.fs:=λb o e hb=>by
  rcases bS.mp (I.IL b (mV b hb)) with z | z
  ·exact absurd z (ahb b o e)
  exact z
 have up :∀b o,X.mH.heap.get? b=some o->∀o1,s.heap.get? b=some o1->∃sl,h'.get? b=some { o1 with slots:=sl }:=λb o e o1 e1=>by
  by_cases hb:b∈fr
  ·obtain⟨_,o2,e2,nf⟩:=I.stack.mem (mV b hb)
   rw[e1] at e2;cases e2;exact k.slot b o1 e1 nf
  exact⟨o1.slots,k.same b o1 e1 (T5 b o e) hb⟩
 refine⟨λb o e n hf he=>?_,λb o e n hf he=>?_,u.free,λb o e he=>?_,u.xn,u.vL,u.xo⟩
 ·exact k.same b o (u.keep b o e n hf he) (T5 b o e) λz=>hf (ahc b o e z)
 ·obtain⟨sl,e1⟩:=u.slot b o e n hf he
  obtain⟨K9,e2⟩:=up b o e _ e1;exact⟨K9,e2⟩
 obtain⟨o1,e1⟩:=u.there b o e he;obtain⟨sl,e2⟩:=up b o e o1 e1;exact⟨_,e2⟩
end
section
variable {P:Program} {w:World} {K:ak} {mg:Str->Option Value} {aS:Heap} {N:List Str} {qual:Str} {scope:Scope} {f:Addr} {cd:Value} {A:Around} {outer:List Env} {s0:Shared} {H0:Hp} {E:XK}
 {af:List (Addr × Obj)} {σ : St} {H:Hp} {s:Shared}
def Mx {x C dx:Addr} {fl:Option Value} (I:Inv (rX (gC P w) P w K mg aS N qual scope f cd A outer s0 H0 E) af σ H s) (hx:XX.XO s.heap (Nw s0.heap H) x C dx fl) (qJ:fl=none\/fl=some .none) (hE:E (.ref C) (some dx) H) :
  (rX (gC P w) P w K mg aS N qual scope f cd A outer s0 H0 E).xe (.ref x) s:=by
 refine XX.ZP (L:=s0.heap.objs.size) (aS:=aS) I.ok.frames I.stack rfl hx qJ (λb hb=>I.Nh hb) λh' X' K'=>?_;refine⟨x,C,dx,H,Z,I.os,I.bare,I.kp rfl K' (λb hb=>hb),I.cM.kp K' (λb z=>z.2) (λb hb=>I.zH b hb),X',hE⟩
def iW (h :∀c d H',E2 c d H'->E c d H'):Passes (gC P w) (rX (gC P w) P w K mg aS N qual scope f cd A outer s0 H0 E) E2:=by
 intro af σ H s e s' I hx;obtain⟨x,C,dx,H',rfl,os,bare,un,cM,X',hE⟩:=hx;have J:=I.Di os un cM bare (λb z=>absurd z (by simp));have weak :∀b,Nw s.heap H' b->Nw s0.heap H' b:=λb z=>by
  refine⟨?_,z.2⟩;cases q:s0.heap.get? b with
  | none=>rfl
  | some o=>
   obtain⟨o1,e1⟩:=I.aS.there b o q (by intro z;exact absurd (show b∈([]:List Addr) from z) (by simp));rw[z.1] at e1;cases e1
 obtain⟨oe,vs,e1,hc,iV,hd,hn,T,oT,ts,r1,hT,P9,r2⟩:=X';exact Mx (fl:=some .none) J ⟨oe,vs,e1,hc,iV,hd,weak _ hn,T,oT,ts,r1,hT,weak _ P9,r2⟩ (.inr rfl) (h _ _ _ hE)
def vQ.okX {x qual:Str} {st:Stmt} {f:Addr} {fd:FuncData} {N ps:List Str} {k:Nat} {sp:Sp} (F:vQ K x qual st f fd) (S:aH N ps (ax st)) (len :∀vs H Q E,sp vs H Q E->vs.length=ps.length)
  (zp :∀(bx:Value) (A:Around) (outer:List Env) (s:Shared) (H:Hp) (vs:List V) (Q:VK) (E:XK),fL k (A.deeper (envOfC qual (ax st) s.heap.objs.size f bx))->sp vs H Q E->
   ∃t,vM (rX (gC P w) P w K mg aS N qual (ax st) f bx A outer s H E) (kj st) t/\t { nx:=λ_ H'=>Q .cj H',rt:=Q } (start N vs) H):gH P w K mg aS (gC P w) (k+1) f fd ps sp:=by
 obtain⟨oc,od,kV,doc,pm,an,bx,ct,tL,rfl,lk,rF⟩:=F.ex;exact Ya lk rF S len λA outer s H vs Q E hr Br=>zp bx A outer s H vs Q E hr Br
end
def Yl:List Value:=[.type "Exception",.type "BaseException",.type "object"]
structure NsK (K:ak) (N:Addr) (m:Str->Option Value):Prop where
 at_ :∀h:Heap,K.In h->h.Ns N m
def acx {K:ak} (l:K.lookup N=some ⟨c,d,.dict es ep,sl⟩) (hs:(es.toList.all λe=>match e.key with | .str _ _=>true | _=>false)=true):NsK K N (nsFind es):=by
 refine⟨λh X=>⟨_,es,ep,X _ _ l,Z,λe he=>?_,λ_=>rfl⟩⟩;have z:=fZ.mp hs e (wV.mpr he);cases q:e.key with
 | str n t=>exact⟨n,t,Z⟩
 | _=>rw[q] at z;cases z
structure uK (K:ak) (C fI:Addr):Prop where
 ex :∃(nm q:Str) (N:Addr) (bs:List Value) (sn:List Str) (sub:List Value) (ab:Bool) (col:Option Bool) (dd:Option Addr) (k0 k1 k2 k3 k5:Option Value) (m:Str->Option Value),
  K.lookup C=some (excClassObj nm q C N bs Yl true sn sub ab col dd k0 k1 k2 k3 k5 "Exception.__new__")/\NsK K N m/\m "__init__" = some (.ref fI)/\m "__getattribute__" = none/\m "__getattr__" = none/\m "__setattr__" = none/\m "number" = none/\m "place" = none
 fn :∃oI:Obj,K.lookup fI=some oI/\oI.cls=.type "function"
 kp:kz K (.ref C)=true
theorem Dz:typeLookup (.type "Exception") "number" = pure none:=am_miss_of_fast (by first | decide | rfl)
theorem E5:typeLookup (.type "Exception") "place" = pure none:=am_miss_of_fast (by first | decide | rfl)
def XE (x C:Addr) (d:Option Addr):Heap->Prop:=λh=>∃oe vs,h.get? x=some oe/\oe.cls=.ref C/\oe.dict=d/\oe.data=.fields vs/\vs[1]?=some .none
def XD (dx:Addr) (fs:List (Str × V)):Heap->Prop:=λh=>∃mA,h.Ns1 dx mA/\(∀f,rT (fs.lookup f) (mA f))/\PySem.Within mA (fs.map (·.1))
theorem Ym {P:Program} {w:World} (e:XE x C d h):j6 P w H h x (.ext (XE x C d)):=
 ⟨e,let⟨oe,_,q,_⟩:=e;⟨oe,q⟩,λh1 h2 ⟨oe,vs,q,r⟩ k=>⟨oe,vs,k _ q,r⟩⟩
theorem Yn {P:Program} {w:World} (e:XD dx fs h):j6 P w H h dx (.ext (XD dx fs)):=
 ⟨e,let⟨_,⟨o,_,_,q,_⟩,_⟩:=e;⟨o,q⟩,λh1 h2 ⟨mA,n,r⟩ k=>⟨mA,n.at k,r⟩⟩
theorem HM {P:Program} {w:World} (ok:jq P w H h) (e:H x=some (.ext (XE x C d))):XE x C d h:=(ok x _ e).1
theorem Ni {P:Program} {w:World} (ok:jq P w H h) (e:H dx=some (.ext (XD dx fs))):XD dx fs h:=(ok dx _ e).1
section
variable {X:Cx} {af:List (Addr × Obj)} {σ : St} {H:Hp} {s:Shared} {x C dx fI:Addr} {f:Str} {v:V} {u:Value}
def Wk (T:uK X.K C fI) (I:Inv X af σ H s) (e:H x=some (.ext (XE x C none))) (hf:f = "number"\/f = "place") (r:RelV v u)
  (h :∀dx s',H dx=none->dx≠x->Inv X af σ (aX (aX H x (.ext (XE x C (some dx)))) dx (.ext (XD dx [(f,v)]))) s'->Q () s'):wpAny (model X.prog X.w) X.A (setAttr (.ref x) f u) Q X.xe s:=by
 obtain⟨nm,q,N,bs,sn,sub,ab,col,dd,k0,k1,k2,k3,k5,m,lk,nk,m1,m2,m3,m4,m5,m6⟩:=T.ex;obtain⟨oe,vs,hx,hc,hd,HN,h1⟩:=HM I.cM e;have yi:m f=none:=by rcases hf with rfl | rfl <;> assumption
 have hB:typeLookup (.type "Exception") f=pure none:=by
  rcases hf with rfl | rfl
  ·exact Dz
  exact E5
 obtain⟨hp,g,d,t,os⟩:=s;refine XX.Wj PySem.F.store_Exception (I.j9 _ _ lk) (nk.at_ _ I.j9) m4 yi hB hx hc (by rw[HN];exact λc z=>nomatch z) hd λh' Ja a1 a2 a3=>?_;have yj:H hp.objs.size=none:=I.cM.fresh (aN _);have xne:hp.objs.size≠x:=λz=>by rw[z] at yj;rw[yj] at e;cases e
 have un:Un X.fs [] H (aX (aX H x (.ext (XE x C (some hp.objs.size)))) hp.objs.size (.ext (XD hp.objs.size [(f,v)]))) hp h':=by
  have nx :∀b,H b=none->b≠x:=λb z q=>by rw[q,e] at z;cases z
  have ns :∀b o,hp.get? b=some o->b≠hp.objs.size:=λb o q=>dR (bH q);have nk :∀b o,H b=some o->(∀φ,o≠.ext φ)->b≠x/\b≠hp.objs.size:=λb o q n=>⟨λz=>by rw[z,e] at q;cases q;exact n _ rfl,λz=>by rw[z,yj] at q;cases q⟩
  refine⟨λb o q n _ _=>a3 b o (nx b n) q,λb o q n _ _=>⟨o.slots,a3 b o (nx b n) q⟩,λb o q n _=>?_,λb o q _=>?_,λb xs q=>?_,λb o xs q=>?_,λb ps q=>⟨#[],?_⟩⟩
  ·rw[au (ns b o q),au (nx b n)];exact n
  ·by_cases z:b=x
   ·subst z;exact⟨_,a1⟩
   exact⟨o,a3 b o z q⟩
  ·obtain⟨z1,z2⟩:=nk b _ q (λφ z=>nomatch z)
   rw[au z2,au z1];exact q
  ·obtain⟨z1,z2⟩:=nk b _ q (λφ z=>nomatch z)
   rw[au z2,au z1];exact q
  obtain⟨z1,z2⟩:=nk b _ q (λφ z=>nomatch z);rw[au z2,au z1,q];simp
 have cM:jq X.prog X.w (aX (aX H x (.ext (XE x C (some hp.objs.size)))) hp.objs.size (.ext (XD hp.objs.size [(f,v)]))) h':=λb o q=>by
  by_cases zb:b=hp.objs.size
  ·subst zb
   rw[ah] at q;cases q;refine Yn ⟨_,a2,λy=>?_,?_⟩
   ·by_cases hy:y=f
    ·subst hy
     simp only[kO,beq_self_eq_true,if_true];exact r
    have z:(y == f)=false:=by simpa using hy
    simp only[kO,z,if_neg hy];exact trivial
   exact Within.cons f u Within.nil
  rw[au zb] at q;by_cases zx:b=x
  ·subst zx
   rw[ah] at q;cases q;exact Ym ⟨_,vs,a1,hc,Z,HN,h1⟩
  rw[au zx] at q;refine(I.cM b o q).zV (λc w' ES qq=>a3 c w' ?_ qq) (λc qq=>?_) λc xs qq=>?_
  ·rcases ES with rfl | ES
   ·exact zx
   intro z;rw[z,e] at ES;cases ES
  ·rw[au (λz=>by rw[z,yj] at qq;cases qq),au (λz=>by rw[z,e] at qq;cases qq)];exact qq
  rw[au (λz=>by rw[z,yj] at qq;cases qq),au (λz=>by rw[z,e] at qq;cases qq)];exact qq
 exact h _ _ yj xne (I.un (t':=Ja) un cM)
def T6 (T:uK X.K C fI) (I:Inv X af σ H s) (e:H x=some (.ext (XE x C (some dx)))) (ed:H dx=some (.ext (XD dx fs))) (cG:dx≠x) (hl:fs.length<=10) (hf:f = "number"\/f = "place") (r:RelV v u)
  (h :∀s',Inv X af σ (aX H dx (.ext (XD dx (ki f v fs)))) s'->Q () s'):wpAny (model X.prog X.w) X.A (setAttr (.ref x) f u) Q X.xe s:=by
 obtain⟨nm,q,N,bs,sn,sub,ab,col,dd,k0,k1,k2,k3,k5,m,lk,nk,m1,m2,m3,m4,m5,m6⟩:=T.ex;obtain⟨oe,vs,hx,hc,hd,HN,h1⟩:=HM I.cM e;obtain⟨mA,n1,rel,wi⟩:=Ni I.cM ed;have yi:m f=none:=by rcases hf with rfl | rfl <;> assumption
 have hB:typeLookup (.type "Exception") f=pure none:=by
  rcases hf with rfl | rfl
  ·exact Dz
  exact E5
 have hxC:x≠C:=λz=>by
  have a:=I.j9 _ _ lk;rw[<- z,hx] at a;have b:=congrArg (λo=>o.map (·.data)) a;simp only[Option.map_some,HN] at b;cases b
 obtain⟨hp,g,d,t,os⟩:=s;refine PySem.store_attr (mA:=mA) (ns:=fs.map (·.1)) PySem.F.store_Exception (I.j9 _ _ lk) (nk.at_ _ I.j9) m4 yi hB hxC ⟨oe,hx,hc,(by rw[HN];exact λc z=>(nomatch z)),.inr ⟨dx,hd,cG,n1⟩⟩ (λh' Ja a1 a2 a3=>?_) wi (by rw[ai];exact c8 hl (by decide));obtain⟨o1,ID,c1,d1,s1,dd1⟩:=a3 oe hx;obtain⟨o2,GV,_,_,p7⟩:=a1;rw[ID] at GV;cases GV;have Yo:o1.dict=some dx:=dd1 dx hd;have n2:h'.Ns1 dx (λy=>if y=f then some u else mA y):=by
  rcases p7 with⟨z,_⟩ | ⟨d2,z1,z2,z3⟩
  ·rw[Yo] at z;cases z
  rw[Yo] at z1;cases z1;exact z3
 have eo:o1=oe:=by
  obtain⟨a,b,c,dd⟩:=o1;obtain⟨a',b',c',dd'⟩:=oe;simp only at c1 d1 s1 hd Yo;subst c1 d1 s1;rw[Yo,<- hd]
 subst eo;have k :∀b u',b≠dx->hp.get? b=some u'->h'.get? b=some u':=λb u' hb qq=>by
  by_cases z:b=x
  ·subst z;rw[hx] at qq;cases qq;exact ID
  exact a2 b u' z (λo0 dx0 q0 q1=>by rw[hx] at q0;cases q0;rw[hd] at q1;cases q1;exact hb) qq
 refine h _ (I.write (t':=Ja) (e:=dx) (x:=dx) (by rw[ed];exact trivial) (.inl rfl) k (let⟨o,_,_,q0,_⟩:=n2;⟨o,q0⟩) (Yn ⟨_,n2,λy=>?_,?_⟩))
 ·rw[B0]
  by_cases hy:y=f
  ·rw[if_pos hy,if_pos hy];exact r
  rw[if_neg hy,if_neg hy];exact rel y
 intro y hy;obtain⟨z1,z2⟩:=Bq f v fs;by_cases q1:y=f
 ·subst q1;exact z1
 have:mA y≠none:=by
  intro z;apply hy;show(if y=f then some u else mA y)=none;rw[if_neg q1];exact z
 exact z2 y (wi y this)
end
inductive aeM (C:Addr) (f:Str) (D:Ends) (σ : St) (y:V) (x':V) (H2:Hp):Prop where
 | mk x (_:x'=.ref x) (_:((H2 x=some (.ext (XE x C none))/\∀dx,H2 dx=none->dx≠x->D.nx σ (aX (aX H2 x (.ext (XE x C (some dx)))) dx (.ext (XD dx [(f,y)]))))\/∃dx fs,H2 x=some (.ext (XE x C (some dx)))/\H2 dx=some (.ext (XD dx fs))/\dx≠x/\fs.length<=10/\D.nx σ (aX H2 dx (.ext (XD dx (ki f y fs))))))
def sXf (C:Addr) (ta tv:TE) (f:Str):TS:=λD σ H=>tv σ H λy H1=>ta σ H1 λx' H2=>aeM C f D σ y x' H2
section
variable {X:Cx} {o value:Expr} {f:Str} {pos jz:Pos} {ta tv:TE} {C fI:Addr}
def aeN (T:uK X.K C fI) (hf:f = "number"\/f = "place") (ha:PE X o ta) (hv:PE X value tv) (hs:swapsWith value (some (.Attribute o f jz)) pos.line X.env=pure false):PS X (.Assign [.Attribute o f jz] value pos) (sXf C ta tv f):=by
 intro af s σ H D I h;refine plainObj_wpAny_Assign_Attribute (cX (hv af s σ H _ I h) λu s1 ⟨y,H1,I1,ry,q1⟩=>cX (ha af s1 σ H1 _ I1 q1) λw' s2 ⟨x',H2,I2,rx,x,ex,q2⟩=>?_) hs;subst ex;obtain rfl:w'=Value.ref x:=rx;rcases q2 with⟨e,q2⟩ | ⟨dx,fs,e,ed,cG,hl,q2⟩
 ·exact Wk T I2 e hf ry λdx s3 z1 z2 I3=>⟨_,_,I3,q2 dx z1 z2⟩
 exact T6 T I2 e ed cG hl hf ry λs3 I3=>⟨_,_,I3,q2⟩
end
def j6.there {P:Program} {w:World} (x:j6 P w H h a o) :∃u,h.get? a=some u:=by
 cases o with
 | lst xs=>obtain⟨_,_,_,_,e⟩:=x;exact⟨_,e⟩
 | tup xs=>obtain⟨_,_,_,_,e,_⟩:=x;exact⟨_,e⟩
 | dK fV=>obtain⟨_,_,_,_,_,_,_,e,_⟩:=x;exact⟨_,e⟩
 | dT fV=>obtain⟨_,_,_,_,_,_,_,e,_⟩:=x;exact⟨_,e⟩
 | set S n=>obtain⟨_,_,_,_,e,_⟩:=x;exact⟨_,e⟩
 | ins C dx fs=>obtain⟨_,_,_,e,_⟩:=x;exact⟨_,e⟩
 | own y=>exact x
 | xd fs=>obtain⟨_,⟨_,_,_,e,_⟩,_⟩:=x;exact⟨_,e⟩
 | XN lo hi=>obtain⟨_,_,_,e⟩:=x;exact⟨_,e⟩
 | u5 ob u=>obtain⟨e,_⟩:=x;exact⟨_,e⟩
 | ER ps=>exact⟨_,show h.get? a=some _ from x⟩
 | met f y=>exact⟨_,show h.get? a=some _ from x⟩
 | ext φ=>obtain⟨_,e,_⟩:=x;exact e
def jq.none_of {P:Program} {w:World} (x:jq P w H h) (e:h.get? a=none):H a=none:=by
 cases q:H a with
 | none=>rfl
 | some o=>
  obtain⟨u,hu⟩:=(x a o q).there;rw[e] at hu;cases hu
def xY (H:Hp) (x:Addr):Hp:=λb=>if b=x then none else H b
def zq:xY H x x=none:=by unfold xY;rw[if_pos rfl]
def DA (h:b≠x):xY H x b=H b:=by unfold xY;rw[if_neg h]
def R0 (h:xY H x b=some o):b≠x/\H b=some o:=by
 by_cases e:b=x
 ·rw[e,zq] at h;cases h
 rw[DA e] at h;exact⟨e,h⟩
section
def Inv.drop (I:Inv X af σ H s) (e:H x=some (.ext φ)):Inv X af σ (xY H x) s:=by
 have nn :∀b,H b=none->xY H x b=none:=λb z=>by
  by_cases q:b=x
  ·rw[q];exact zq
  rw[DA q];exact z
 have nx :∀b o,H b=some o->(∀ψ,o≠.ext ψ)->xY H x b=some o:=λb o q n=>by
  rw[DA (λz=>by rw[z,e] at q;cases q;exact n _ rfl)];exact q
 refine { I with aS:=?_,free:=nn _ I.free,oU:=λy c q=>nn _ (I.oU y c q),pin:=λp hp=>?_,cM:=λb o q=>?_ }
 ·have u:=I.aS
  exact⟨u.keep,u.slot,λb o q n he=>nn _ (u.free b o q n he),u.there,λb xs q=>nx b _ (u.xn b xs q) λ_ z=>(nomatch z),λb o xs q=>nx b _ (u.vL b o xs q) λ_ z=>(nomatch z),
   λb ps q=>let⟨more,z⟩:=u.xo b ps q;⟨more,nx b _ z λ_ z=>(nomatch z)⟩⟩
 ·obtain⟨a1,a2,a3⟩:=I.pin p hp
  exact⟨a1,nn _ a2,a3⟩
 obtain⟨q1,q2⟩:=R0 q;exact(I.cM b o q2).zV (λ_ _ _ z=>z) (λc z=>nx c _ z λ_ z=>(nomatch z)) λc xs z=>nx c _ z λ_ z=>(nomatch z)
def Inv.aeO (I:Inv X af σ H s) (k :∀b u,s.heap.get? b=some u->h'.get? b=some u) (hn:s.heap.get? a=none) (new:j6 X.prog X.w (aX H a (.ext φ)) h' a (.ext φ)) :
  Inv X af σ (aX H a (.ext φ)) { s with heap:=h',toks:=t' }:=by
 have ha:H a=none:=I.cM.none_of hn;have ne :∀b u,s.heap.get? b=some u->b≠a:=λb u q z=>by rw[z,hn] at q;cases q
 refine I.un ⟨λb u q _ _ _=>k b u q,λb u q _ _ _=>⟨u.slots,k b u q⟩,λb u q n _=>by rw[au (ne b u q)];exact n,λb u q _=>⟨u,k b u q⟩,
  λb xs q=>by rw[au (aI q ha)];exact q,λb u xs q=>by rw[au (aI q ha)];exact q,λb ps q=>⟨#[],by rw[au (aI q ha),q];simp⟩⟩ λb u q=>?_
 by_cases hb:b=a
 ·subst hb;rw[ah] at q;cases q;exact new
 rw[au hb] at q;exact(I.cM b u q).zV (λc v _ z=>k c v z) (λc z=>by rw[au (aI z ha)];exact z) λc xs z=>by rw[au (aI z ha)];exact z
end
def Jb (n p:V):List (Str × V):=[("number",n),("place",p)]
def ZS (n p:V):ki "place" p [("number",n)]=Jb n p:=by
 unfold Jb ki;rw[if_neg (by decide)];rfl
inductive E6 (C:Addr) (vs:List V) (H:Hp) (Q:VK) (_:XK):Prop where
 | mk (x:Addr) (n p:V) (_:vs=[.ref x,n,p]) (_:H x=some (.ext (XE x C none))) (_ :∀dx,H dx=none->dx≠x->Q .cj (aX (aX H x (.ext (XE x C (some dx)))) dx (.ext (XD dx (Jb n p)))))
inductive Wl (C:Addr) (E:XK) (vs:List V) (H1:Hp):Prop where
 | mk n p (_:vs=[n,p]) (_ :∀dx,H1 dx=none->E (.ref C) (some dx) (aX H1 dx (.ext (XD dx (Jb n p)))))
def Jc (C:Addr) (E:XK) (t:TA):TS:=λ_ σ H=>t σ H λvs H1=>Wl C E vs H1
section
def Wm (T:uK X.K C fI) (G:gH X.prog X.w X.K X.mg X.aS aL k fI fd ["self","number","place"] (E6 C)) (hr:fL (k+1) X.A) (b:Binds X.K fd ["self","number","place"] []) (hg:Gl X nm) (hm:X.mg nm=some (.ref C)) (R1:X.calm=true) (hex:X.ex=[]) (ha:PA X (e::es) t)
  (hX :∀af σ H s x dx,Inv X af σ H s->XX.XO s.heap (Nw X.mH.heap H) x C dx none->E (.ref C) (some dx) H->X.xe (.ref x) s)
  (o9:(nm == ("__debug__" : Str))=false:=by decide) (he:starEach (e::es) X.env=(false,eval e X.env)::starEach es X.env:=by rfl) (iT:(backTo cpos (starEach es X.env)).any (·.1)=false:=by rfl) :
  PS X (.Raise (some (.Call (.Name nm np) (e::es) [] cpos)) none pos) (Jc C E t):=by
 intro af s σ H D I h;obtain⟨cn,q,N,bs,sn,sub,ab,col,dd,k0,k1,k2,k3,k5,m,lk,nk,m1,m2,m3,m4,m5,m6⟩:=T.ex;obtain⟨oI,lI,cI⟩:=T.fn;rw[arm_exec_Raise];refine wpAny_bind (wpAny_standAt ?_);show wpAny _ _ (raiseStmt X.env (some (do let v <- eval (.Call (.Name nm np) (e::es) [] cpos) X.env;standAt pos;pure v)) none) _ _ _;refine XX.ZR (C:=C) (nm:=cn) (q:=q) (N:=N) (bs:=bs) (bm:=Yl) (hdct:=true) (sn:=sn) (sub:=sub) (ab:=ab) (col:=col) (dd:=dd) (k0:=k0) (k1:=k1) (k2:=k2) (k3:=k3) (k5:=k5) (newId:="Exception.__new__") (by decide) (I.ok.hd R1) ?_;refine wpAny_bind (wpAny_mono (Q:=λv s1=>∃x o vs,v=.ref x/\s1.heap.get? C=some (excClassObj cn q C N bs Yl true sn sub ab col dd k0 k1 k2 k3 k5 "Exception.__new__")/\
   s1.heap.get? x=some o/\o.cls=.ref C/\o.data=.fields vs/\vs[1]?=some .none/\X.xe (.ref x) s1) ?_ (λv s1 z=>wpAny_bind (wpAny_standAt (wpAny_pure z))) λ_ _ z=>z)
 refine wpAny_Call_Name_kw (mZ I hg hm ?_ o9);refine k9 (h₀:=X.aS) I.ok.mod.KU T.kp (cX (ha cpos af s σ H _ I h) λus s1 ⟨vs,H1,I1,r,n,p,ev,q1⟩=>⟨I1.j9,?_⟩) he iT;subst ev;have hul:us.length=2:=r.length.symm;obtain⟨hp,g,d,tk,os⟩:=s1;refine wpAny_call_exc_init PySem.F.excBase_Exception (I1.j9 _ _ lk) (nk.at_ _ I1.j9) m1 (I1.j9 _ _ lI) cI (λh' x mk=>?_) (by rw[BR,hul];decide);obtain⟨tt,hx,_,_⟩:=mk.there;have I2:Inv X af σ (aX H1 x (.ext (XE x C none))) ⟨h',g,d,tk,os⟩:=I1.aeO (t':=tk) mk.keeps mk.new (Ym ⟨_,_,hx,Z,Z,Z,Z⟩);have E4:H1 x=none:=I1.cM.none_of mk.new;have r2:Vals [V.ref x,n,p] (Value.ref x::us):=.cons rfl r;have Br:E6 C [V.ref x,n,p] (aX H1 x (.ext (XE x C none))) (λv H2=>v=.cj/\∃dx,H1 dx=none/\dx≠x/\H2=aX (aX H1 x (.ext (XE x C (some dx)))) dx (.ext (XD dx (Jb n p)))) E0:=by
  refine⟨x,n,p,Z,ah,λdx hd cG=>⟨Z,dx,?_,cG,?_⟩⟩
  ·rw[au cG] at hd;exact hd
  rw[ij]
 refine wpAny_call (codeAny_mono (G.run _ X.stack _ _ ⟨Value.ref x::us,[]⟩ (Value.ref x::us) _ _ E0 (hr.make C us []) (I2.RO.make C us []) (by
  have z:=b ⟨h',g,d,tk,os⟩ (Value.ref x::us) I2.j9 (by simp[hul]);rw[b5] at z;exact z) r2 Br) λr3 s3 hq=>?_)
 cases r3 with
 | error _=>exact False.elim hq
 | ok fl=>
  cases fl with
  | ret u=>
   obtain⟨v,H3,I3,rv,ev,dx,yj,cG,eH⟩:=I2.after hq;subst ev;refine⟨rv,?_⟩;have ex3:H3 x=some (.ext (XE x C (some dx))):=by rw[eH,au (Ne.symm cG),ah]
   obtain⟨oe,ws,z1,z2,z3,z4,z5⟩:=HM I3.cM ex3;refine⟨x,oe,ws,Z,I3.j9 _ _ lk,z1,z2,z4,z5,?_⟩;have eD:xY H3 x=aX H1 dx (.ext (XD dx (Jb n p))):=by
    funext c;by_cases cx:c=x
    ·rw[cx,zq,au (Ne.symm cG),E4]
    rw[DA cx,eH];by_cases cd:c=dx
    ·rw[cd,ah,ah]
    rw[au cd,au cx,au cd]
   have I4:=I3.drop ex3;refine hX af σ (xY H3 x) s3 x dx I4 ⟨oe,ws,z1,z2,z3,z4,⟨?_,zq⟩,z5⟩ (by rw[eD];exact q1 dx yj);cases q0:X.mH.heap.get? x with
   | none=>rfl
   | some o0=>
    exfalso;obtain⟨o1,e1⟩:=I1.aS.there x o0 q0 (by rw[hex];simp);have e2:hp.get? x=some o1:=e1;rw[mk.new] at e2;cases e2
  | next=>exact False.elim hq
  | brk=>exact False.elim hq
  | cont=>exact False.elim hq
end
def Un.kp (u:Un fs [] H H' h h1) (k:XX.Kp (Nw h H') fr h1 h2) (mV :∀b∈fr,b∈fs) (nf :∀b∈fr,∀o,h1.get? b=some o->∀vs,o.data≠.fields vs):Un fs [] H H' h h2:=by
 have T5 :∀b o,h.get? b=some o->¬ Nw h H' b:=λb o e z=>by rw[z.1] at e;cases e
 have up :∀b o,h.get? b=some o->∀o1,h1.get? b=some o1->∃sl,h2.get? b=some { o1 with slots:=sl }:=λb o e o1 e1=>by
  by_cases hb:b∈fr
  ·exact k.slot b o1 e1 (nf b hb o1 e1)
  exact⟨o1.slots,k.same b o1 e1 (T5 b o e) hb⟩
 refine⟨λb o e n hf he=>k.same b o (u.keep b o e n hf he) (T5 b o e) λz=>hf (mV b z),λb o e n hf he=>?_,u.free,λb o e he=>?_,u.xn,u.vL,u.xo⟩
 ·obtain⟨sl,e1⟩:=u.slot b o e n hf he
  obtain⟨K9,e2⟩:=up b o e _ e1;exact⟨K9,e2⟩
 obtain⟨o1,e1⟩:=u.there b o e he;obtain⟨sl,e2⟩:=up b o e o1 e1;exact⟨_,e2⟩
abbrev Cx.exc (X:Cx) (x:Addr):Cx:={ X with A:=X.A.mark (some (.ref x)),calm:=false,xe:=λ_ _=>False }
section
theorem Inv.exc (I:Inv X af σ H s) (x:Addr):Inv (X.exc x) af σ H s:=by
 obtain⟨a1,a2,a3,a4,a5,a6,a7,a8,a9,a10,a11,a12,a13,a14,a15,a16,a17,a18⟩:=I.ok;exact⟨⟨a1,a2,a3,a4,a5,a6,a7,a8,λz=>(nomatch z),a10,a11,a12,a13,a14,a15,a16,a17,a18⟩,I.os,I.bare,I.aS,I.loc,I.cell,I.free,I.oU,I.pin,I.cM,I.len⟩
theorem Inv.DB (I:Inv (X.exc x) af σ H s) (ok:X.Ok):Inv X af σ H s:=⟨ok,I.os,I.bare,I.aS,I.loc,I.cell,I.free,I.oU,I.pin,I.cM,I.len⟩
theorem SP.DB (h:SP (X.exc x) af D f s') (ok:X.Ok):SP X af D f s':=by
 cases f with
 | next=>obtain⟨σ',H',I,q⟩:=h;exact⟨σ',H',I.DB ok,q⟩
 | brk=>obtain⟨σ',H',I,q⟩:=h;exact⟨σ',H',I.DB ok,q⟩
 | cont=>obtain⟨σ',H',I,q⟩:=h;exact⟨σ',H',I.DB ok,q⟩
 | ret u=>obtain⟨v,σ',H',I,q⟩:=h;exact⟨v,σ',H',I.DB ok,q⟩
def acz (T:uK X.K C fI) (fk:X.stack=X.env::X.outer) (mV:X.env.frame=some X.env.locals) (gF:Gl X nm) (mF:X.mg nm=some (.ref C)) (I:Inv X af σ H s) (hx:gC X.prog X.w X.stack H s Eh e s') (hC :∀c d H',Eh c d H'->c=.ref C)
  (hs :∀x dx H' s4,Eh (.ref C) (some dx) H'->Inv X af σ H' s4->wpAny (model X.prog X.w) (X.A.mark (some (.ref x))) (execs (b0::ux) X.env) Q (λ_ _=>False) s4) (o9:(nm == ("__debug__" : Str))=false:=by decide) :
  wpAny (model X.prog X.w) X.A (noteFrame e X.env) (λ_ s2=>wpAny (model X.prog X.w) X.A (setFlight e none) (λ_ s3=>wpAny (model X.prog X.w) X.A (handleBy e X.env (.ExceptHandler (some (.Name nm np)) none (b0::ux) hp::[])) Q X.xe s3) X.xe s2) X.xe s':=by
 obtain⟨x,C',dx,H',rfl,os,bare,un,cM,X',hE⟩:=hx;obtain rfl:C'=C:=by have:=hC _ _ _ hE;cases this;rfl
 obtain⟨cn,q,N,bs,sn,sub,ab,col,dd,k0,k1,k2,k3,k5,m,lk,nk,m1,m2,m3,m4,m5,m6⟩:=T.ex;have J:=I.Di os un cM bare (λb z=>absurd z (by simp));have nf :∀b∈rV X.stack,∀o,s'.heap.get? b=some o->∀vs,o.data≠.fields vs:=λb hb o ho=>by
  obtain⟨_,o1,e1,z⟩:=J.stack.mem hb;rw[ho] at e1;cases e1;exact z
 have B5 :∀b,s'.heap.objs.size<=b->Nw s.heap H' b:=λb hb=>by
  refine⟨?_,cM.fresh hb⟩;cases z:s.heap.get? b with
  | none=>rfl
  | some o=>
   obtain⟨o1,e1⟩:=un.there b o z (by simp);exact absurd (bH e1) (J1.mpr hb)
 have Wn:X.A.frames=some (X.env::X.outer):=by rw[<- fk];exact I.ok.frames
 have efr:(X.env::X.outer).filterMap (·.frame)=rV X.stack:=by rw[fk];rfl
 refine XX.Ng (L:=X.env.locals) (aS:=X.aS) Wn (by rw[<- fk];exact J.stack) mV X' (.inr rfl) B5 λh1 X1 K1=>?_;refine XX.Aa (s:={ s' with heap:=h1 }) (fr:=rV X.stack) X1 λh2 X2 K2=>?_;rw[efr] at K1;have T7:=K1.trans K2;have st :∀h3,XX.Kp (Nw s.heap H') (rV X.stack) s'.heap h3->Inv X af σ H' { s' with heap:=h3 }:=λh3 K3=>
  I.Di (s':={ s' with heap:=h3 }) os (un.kp K3 (λb hb=>hb) nf) (cM.kp K3 (λb z=>z.2) λb hb=>J.zH b hb) bare (λb z=>absurd z (by simp))
 have J2:=st h2 T7;refine wpAny_handleBy_cons (codeAny_handlers_test (mZ (J2.exc x) gF mF ?_ o9)) (by intro z;cases z);obtain⟨oe,vs,e1,hc,_⟩:=id X2;obtain⟨u6,g,d,tk,K4⟩:=s';refine wpAny_excMatches_sub_self (J2.j9 _ _ lk) e1 hc (by decide) (codeAny_handlers_suite ?_);refine XX.Aa (s:=⟨h2,g,d,tk,K4⟩) (fr:=rV X.stack) X2 λh3 X3 K3=>?_;exact wpAny_mono (hs x dx H' _ hE (st h3 (T7.trans K3))) (λ_ _ z=>z) λ_ _ z=>z.elim
end
section
def Qa (F:gH X.prog X.w X.K X.mg X.aS CX k f fd ps sp) (hr:fL k X.A) (hb:Binds X.K fd ps [])
  (I:Inv X af σ H s) (r:Vals vs us) (h:sp vs H Q E) (h1 :∀u s',EP X af σ Q u s'->Q' u s') (h2 :∀x s',CX X.stack H s E x s'->E' x s'):wpAny (model X.prog X.w) X.A (call (.ref f) us) Q' E' s:=by
 have hl:(us++[]).length=ps.length:=by rw[b5,<- r.length];exact F.len _ _ _ _ h
 have bb:=hb s us I.j9 hl;rw[b5] at bb;refine wpAny_call (codeAny_mono (F.run X.A X.stack s H ⟨us,[]⟩ us vs Q E hr I.RO bb r h) λr s' hq=>?_);cases r with
 | error x=>exact h2 x s' hq
 | ok fl=>
  cases fl with
  | ret u=>exact h1 u s' (I.after hq)
  | next=>exact False.elim hq
  | brk=>exact False.elim hq
  | cont=>exact False.elim hq
def Yp (C:Addr) (sp:Sp) (t:TA) (ts:TS):TS:=λD σ H=>t σ H λvs H1=>sp vs H1 D.rt λcls _ H'=>cls=.ref C/\ts D σ H'
def ZT (T:uK X.K C fI) (fk:X.stack=X.env::X.outer) (mV:X.env.frame=some X.env.locals) (gF:Gl X nm) (mF:X.mg nm=some (.ref C)) (G:gH X.prog X.w X.K X.mg X.aS (gC X.prog X.w) k f fd ps sp) (hr:fL k X.A) (hg:Gl X fn) (hm:X.mg fn=some (.ref f)) (hk:kz X.K (.ref f)=true) (hb:Binds X.K fd ps [])
  (ha:PA X.D9 (e::es) t) (hs :∀x,vM (X.exc x) (b0::ux) ts) (Nj:(nm == ("__debug__" : Str))=false:=by decide) (Cz:(fn == ("__debug__" : Str))=false:=by decide)
  (he:starEach (e::es) X.env=(false,eval e X.env)::starEach es X.env:=by rfl) (iT:(backTo cp (starEach es X.env)).any (·.1)=false:=by rfl) :
  PS X (.Try [.Return (some (.Call (.Name fn p) (e::es) [] cp)) rp] [.ExceptHandler (some (.Name nm np)) none (b0::ux) hp] [] [] pos) (Yp C sp t ts):=by
 intro af s σ H D I h;refine wpAny_Try_except ?_;refine wpAny_execs_cons (wpAny_Return_some (wpAny_Call_Name_kw (mZ I hg hm ?_ Cz)));refine k9 (h₀:=X.aS) I.ok.mod.KU hk (wpAny_mono (ha cp af s σ H _ (I.xp _) h) (λus s1 z=>?_) λ_ _ z=>z.elim) he iT;obtain⟨vs,H1,I1',r,q⟩:=z;have I1:Inv X af σ H1 s1:=I1'.uf;refine⟨I1.j9,Qa G hr hb I1 r q (λu s2 z=>?_) λx s2 z=>?_⟩
 ·obtain⟨v,H2,I2,rv,qv⟩:=z
  exact⟨v,σ,H2,I2,rv,qv⟩
 refine acz T fk mV gF mF I1 z (λc d H' w=>w.1) (λx' dx H' s4 hE I4=>?_) Nj;exact wpAny_mono (hs x' af s4 σ H' D (I4.exc x') hE.2) (λfl s5 w=>w.DB I.ok) λ_ _ w=>w
end
class lr (X:Cx) (K:outParam ak):Prop where
 eq:X.K=K
instance {CX:zY} {P:Program} {w:World} {K:ak} {mg:Str->Option Value} {aS:Heap} {N:List Str} {q:Str} {sc:Scope} {f:Addr} {cd:Value} {A:Around} {o:List Env} {s:Shared} {H:Hp} {E:XK}:lr (rX CX P w K mg aS N q sc f cd A o s H E) K:=⟨Z⟩
instance {X:Cx} {K:ak} {E:Value->Shared->Prop} [k:lr X K]:lr (X.xp E) K:=⟨k.eq⟩
instance {X:Cx} {K:ak} {s:Shared} {H:Hp} {sc:Scope} {ce:Env} {fp:List Addr} [k:lr X K]:lr (X.p6 s H sc ce fp) K:=⟨k.eq⟩
instance {X:Cx} {K:ak} {x:Addr} [k:lr X K]:lr (X.exc x) K:=⟨k.eq⟩
@[irreducible] def QE (X:Cx) (e:Expr) (t:TE):Prop:=PE X e t
@[irreducible] def QT (X:Cx) (e:Expr) (t:TT):Prop:=PT X e t
@[irreducible] def QW (X:Cx) (e:Expr) (t:TT):Prop:=PW X e t
@[irreducible] def QA (X:Cx) (es:List Expr) (t:TA):Prop:=PA X es t
@[irreducible] def QS (X:Cx) (st:Stmt) (t:TS):Prop:=PS X st t
@[irreducible] def QB (X:Cx) (st:List Stmt) (t:TS):Prop:=vM X st t
@[irreducible] def QG (X:Cx) (e:Expr) (t:TG):Prop:=PG X e t
@[irreducible] def GW (X:Cx) (e:List Expr) (t:PF):Prop:=MQ X e t
@[irreducible] def QI (X:Cx) (tg e:Expr) (t:TI):Prop:=PI X tg e t
@[irreducible] def GX (X:Cx) (e:List Expr) (t:TT):Prop:=Ld X e t
@[irreducible] def QO (X:Cx) (e:Option Expr) (t:TO):Prop:=PO X e t
section
def QE.o (h:QE X e t):PE X e t:=by unfold QE at h;exact h
def QE.i (h:PE X e t):QE X e t:=by unfold QE;exact h
def QT.o (h:QT X e t):PT X e t:=by unfold QT at h;exact h
def QT.i (h:PT X e t):QT X e t:=by unfold QT;exact h
def QW.o (h:QW X e t):PW X e t:=by unfold QW at h;exact h
def QW.i (h:PW X e t):QW X e t:=by unfold QW;exact h
def QA.o (h:QA X e t):PA X e t:=by unfold QA at h;exact h
def QA.i (h:PA X e t):QA X e t:=by unfold QA;exact h
def QS.o (h:QS X e t):PS X e t:=by unfold QS at h;exact h
def QS.i (h:PS X e t):QS X e t:=by unfold QS;exact h
def QB.o (h:QB X e t):vM X e t:=by unfold QB at h;exact h
def QB.i (h:vM X e t):QB X e t:=by unfold QB;exact h
def QG.o (h:QG X e t):PG X e t:=by unfold QG at h;exact h
def QG.i (h:PG X e t):QG X e t:=by unfold QG;exact h
def GW.o (h:GW X e t):MQ X e t:=by unfold GW at h;exact h
def GW.i (h:MQ X e t):GW X e t:=by unfold GW;exact h
def QI.o (h:QI X tg e t):PI X tg e t:=by unfold QI at h;exact h
def QI.i (h:PI X tg e t):QI X tg e t:=by unfold QI;exact h
def GX.o (h:GX X e t):Ld X e t:=by unfold GX at h;exact h
def GX.i (h:Ld X e t):GX X e t:=by unfold GX;exact h
def QO.o (h:QO X e t):PO X e t:=by unfold QO at h;exact h
def QO.i (h:PO X e t):QO X e t:=by unfold QO;exact h
def aa (i:Nat) (hN:X.N[i]?=some x:=by rfl) (hv:Pz X.env.scope x:=by first | exact Or.inl rfl | exact Or.inr (Or.inl rfl) | exact Or.inr (Or.inr rfl)) (hd:(x == ("__debug__" : Str))=false:=by decide)
  (rF:(x == ("__classdict__" : Str))=false:=by decide):QE X (.Name x pos) (bR i):=.i (aa1 hN hv hd rF)
theorem bL:QE X (.Constant (.int i) j pos) (tC (.int i)):=.i aa2
theorem dB:QE X (.Constant (.str y) j pos) (tC (.str y)):=.i aa4
theorem yk:QE X (.Constant (.bool k) j pos) (tC (.bl k)):=.i aew
theorem Lk:QE X (.Constant .none j pos) (tC .cj):=.i aa3
def df (hm :∃t,X.mg x=some (.int i t)) (hg:Gl X x:=by rfl) (hd:(x == ("__debug__" : Str))=false:=by decide):QE X (.Name x pos) (tC (.int i)):=.i (let⟨t,h⟩:=hm;Ka hg h ⟨t,Z⟩ hd)
def ahd (hm :∃t,X.mg x=some (.str y t)) (hg:Gl X x:=by rfl) (hd:(x == ("__debug__" : Str))=false:=by decide):QE X (.Name x pos) (tC (.str y)):=.i (let⟨t,h⟩:=hm;Ka hg h ⟨t,Z⟩ hd)
def mX (hm:X.mg x=some (.ref q)) (hg:Gl X x:=by rfl) (hd:(x == ("__debug__" : Str))=false:=by decide):QE X (.Name x pos) (tC (.ref q)):=.i (Ka hg hm rfl hd)
def aW {K:ak} [kX:lr X K] (ho:QE X o to) (hb:attributeBase o f X.env (eval o X.env)=eval o X.env:=by rfl):QE X (.Attribute o f pos) (jf K to f):=by
 obtain⟨rfl⟩:=kX;exact(.i (abN ho.o hb))
theorem iX (ha:QE X a ta) (hb:QE X b tb):QE X (.BinOp a .Add b pos) (gI (oQ λi j=>.int (i+j)) ta tb):=.i (Bp abA ha.o hb.o)
theorem kI (ha:QE X a ta) (hb:QE X b tb):QE X (.BinOp a .Sub b pos) (gI (oQ λi j=>.int (i - j)) ta tb):=.i (Bp abB ha.o hb.o)
theorem mT (ha:QE X a ta) (hb:QE X b tb):QE X (.BinOp a .Mult b pos) (gI (rI Dn λi j=>.int (i * j)) ta tb):=.i (Bp abC ha.o hb.o)
theorem Gp (ha:QE X a ta) (hb:QE X b tb):QE X (.BinOp a .Mod b pos) (gI (rI (λ_ j=>0 < j) λi j=>.int (i % j)) ta tb):=.i (Bp abD ha.o hb.o)
theorem Jd (ha:QE X a ta) (hb:QE X b tb):QE X (.BinOp a .FloorDiv b pos) (gI (rI abz λi j=>.int (i / j)) ta tb):=.i (Bp Zo ha.o hb.o)
theorem kb (ha:QE X a ta) (hb:QE X b tb):QE X (.BinOp a .Add b pos) (gI (λx y H Q=>∃i j,x=.str i/\y=.str j/\i.length+j.length<=sizeLine/\Q (.str (i++j)) H) ta tb):=.i (Bp RK ha.o hb.o)
theorem l8 (ha:QE X a ta) (hb:QE X b tb):QE X (.BinOp a .Add b pos) (gI M7 ta tb):=.i (Bp ab8 ha.o hb.o)
def T8 {K:ak} [kX:lr X K] (ha:QE X a ta) (hb:QE X b tb):QE X (.BinOp a .Add b pos) (gI (Ye K) ta tb):=by
 obtain⟨rfl⟩:=kX;exact(.i (Bp ZC ha.o hb.o))
theorem Bv (ha:QE X a ta):QE X (.UnaryOp .USub a pos) (tUn (rU λi=>.int (-i)) ta):=.i (aeC abE ha.o)
theorem zt (ho:mU X (compareOp op) r) (ha:QE X a ta) (hb:QE X b tb) (hm:behindInMarks op b=false):QE X (.Compare a [op] [b] pos) (gI r ta tb):=.i (Zp ho ha.o hb.o hm)
theorem DC (ho:mU X (compareOp op) r) (ha:QE X a ta) (hb:QE X b tb) (hm:behindInMarks op b=false):QT X (.Compare a [op] [b] pos) (oV (gI r ta tb)):=.i (Zq ho ha.o hb.o hm)
theorem HP (ha:QE X a ta) (hb:QE X b tb):QE X (.Compare a [.Eq] [b] pos) (gI PK ta tb):=zt X5 ha hb (qG _)
theorem dg (ha:QE X a ta) (hb:QE X b tb):QT X (.Compare a [.Eq] [b] pos) (oV (gI PK ta tb)):=DC X5 ha hb (qG _)
theorem acC (ha:QE X a ta) (hb:QE X b tb):QE X (.Compare a [.NotEq] [b] pos) (gI X4 ta tb):=zt X6 ha hb (qG _)
theorem Ab (ha:QE X a ta) (hb:QE X b tb):QT X (.Compare a [.NotEq] [b] pos) (oV (gI X4 ta tb)):=DC X6 ha hb (qG _)
theorem R3 (ha:QE X a ta) (hb:QE X b tb):QE X (.Compare a [.Lt] [b] pos) (gI (oQ λi j=>.bl (decide (i < j))) ta tb):=zt Mt ha hb (qG _)
theorem HQ (ha:QE X a ta) (hb:QE X b tb):QT X (.Compare a [.Lt] [b] pos) (oV (gI (oQ λi j=>.bl (decide (i < j))) ta tb)):=DC Mt ha hb (qG _)
theorem ahe (ha:QE X a ta) (hb:QE X b tb):QE X (.Compare a [.LtE] [b] pos) (gI (oQ λi j=>.bl (decide (i<=j))) ta tb):=zt Dq ha hb (qG _)
theorem ahf (ha:QE X a ta) (hb:QE X b tb):QE X (.Compare a [.Gt] [b] pos) (gI (oQ λi j=>.bl (decide (j < i))) ta tb):=zt X7 ha hb (qG _)
theorem Kh (ha:QE X a ta) (hb:QE X b tb):QT X (.Compare a [.Gt] [b] pos) (oV (gI (oQ λi j=>.bl (decide (j < i))) ta tb)):=DC X7 ha hb (qG _)
theorem ahg (ha:QE X a ta) (hb:QE X b tb):QE X (.Compare a [.GtE] [b] pos) (gI (oQ λi j=>.bl (decide (j<=i))) ta tb):=zt aeD ha hb (qG _)
def Wq {K:ak} [kX:lr X K] (ha:QE X a ta) (hb:QE X b tb) (hm:behindInMarks .In b=false:=by rfl):QE X (.Compare a [.In] [b] pos) (gI (TB K false) ta tb):=by
 obtain⟨rfl⟩:=kX;exact(zt La ha hb hm)
def HR {K:ak} [kX:lr X K] (ha:QE X a ta) (hb:QE X b tb) (hm:behindInMarks .In b=false:=by rfl):QT X (.Compare a [.In] [b] pos) (oV (gI (TB K false) ta tb)):=by
 obtain⟨rfl⟩:=kX;exact(DC La ha hb hm)
def aeP {K:ak} [kX:lr X K] (ha:QE X a ta) (hb:QE X b tb) (hm:behindInMarks .NotIn b=false:=by rfl):QT X (.Compare a [.NotIn] [b] pos) (oV (gI (TB K true) ta tb)):=by
 obtain⟨rfl⟩:=kX;exact(DC M3 ha hb hm)
theorem aeQ (ha:QE X a ta):QE X (.Compare a [.Is] [.Constant .none j jz] pos) (VH ta):=.i (aa6 (Td ha.o))
theorem sX (ha:QE X a ta):QT X (.Compare a [.Is] [.Constant .none j jz] pos) (tB (VH ta)):=.i (MP (Td ha.o))
theorem E7 (ha:QE X a ta):QT X (.Compare a [.IsNot] [.Constant .none j jz] pos) (tB (Rz ta)):=.i (MP (Zb ha.o))
abbrev GY:R2:=oQ λi j=>.bl (decide (i<=j))
abbrev rLT:R2:=oQ λi j=>.bl (decide (i < j))
def T9 (ha:QE X a ta) (hb:QE X b tb) (hc:QE X c tc) (hm:lastMarks [.LtE,.LtE] [b,c]=false:=by with_unfolding_all rfl):QE X (.Compare a [.LtE,.LtE] [b,c] pos) (ye GY GY ta tb tc):=.i (MU Dq Dq ha.o hb.o hc.o hm)
def Je (ha:QE X a ta) (hb:QE X b tb) (hc:QE X c tc) (hm:lastMarks [.LtE,.LtE] [b,c]=false:=by with_unfolding_all rfl):QT X (.Compare a [.LtE,.LtE] [b,c] pos) (oV (ye GY GY ta tb tc)):=.i (MV Dq Dq ha.o hb.o hc.o hm)
def Ua (ha:QE X a ta) (hb:QE X b tb) (hc:QE X c tc) (hm:lastMarks [.LtE,.Lt] [b,c]=false:=by with_unfolding_all rfl):QE X (.Compare a [.LtE,.Lt] [b,c] pos) (ye GY rLT ta tb tc):=.i (MU Dq Mt ha.o hb.o hc.o hm)
def acD (ha:QE X a ta) (hb:QE X b tb) (hc:QE X c tc) (hm:lastMarks [.Lt,.LtE] [b,c]=false:=by with_unfolding_all rfl):QT X (.Compare a [.Lt,.LtE] [b,c] pos) (oV (ye rLT GY ta tb tc)):=.i (MV Mt Dq ha.o hb.o hc.o hm)
variable {tA IP:TT} {je:List Expr}
theorem vR (ha:QT X a tA):QW X (.BoolOp .And [a] pos) tA:=.i (Zc ha.o)
theorem oX (ha:QT X a tA):QW X (.BoolOp .Or [a] pos) tA:=.i (aa8 ha.o)
theorem w_and (ha:QT X a tA) (hb:QW X (.BoolOp .And (b::je) pos) IP):QW X (.BoolOp .And (a::b::je) pos) (RA tA IP):=.i (aa9 ha.o hb.o)
theorem w_or (ha:QT X a tA) (hb:QW X (.BoolOp .Or (b::je) pos) IP):QW X (.BoolOp .Or (a::b::je) pos) (XW tA IP):=.i (aex ha.o hb.o)
theorem qK (h:QW X a tA):QT X a tA:=.i h.o.pt
theorem uz (ha:QT X a tA):QT X (.UnaryOp .Not a pos) (RB tA):=.i (aba ha.o)
def gD {t:TE} (h:QE X e t) (he :∀whole,isTrue e X.env whole=(do let v <- whole;standAt e.pos;holding [v] (truthy v)):=by intro _;rfl):QT X e (tB t):=.i (aa7 h.o he)
theorem nN {op:BoolOp} {t:TE} (h:QE X a t):QE X (.BoolOp op [a] pos) t:=.i (abc h.o)
theorem vS (ha:QE X a ta) (hb:QE X (.BoolOp .And (b::je) pos) tb):QE X (.BoolOp .And (a::b::je) pos) (RC ta tb):=.i (abd ha.o hb.o)
theorem DD (ha:QE X a ta) (hb:QE X (.BoolOp .Or (b::je) pos) tb):QE X (.BoolOp .Or (a::b::je) pos) (VI ta tb):=.i (aey ha.o hb.o)
theorem aeR (ha:QE X a ta):QE X (.UnaryOp .Not a pos) (XY ta):=.i (abe ha.o)
theorem acE (hc:QT X c tA) (ha:QE X a ta) (hb:QE X b tb):QE X (.IfExp c a b pos) (tIf tA ta tb):=.i (VJ hc.o ha.o hb.o)
theorem ao:QA X [] lO:=.i abS
def ae (ha:QE X e te) (hr:QA X es t) (hs:starEach (e::es) X.env=(false,eval e X.env)::starEach es X.env:=by rfl):QA X (e::es) (eM te t):=.i (Zs ha.o hr.o hs)
theorem cO (h:QA X es t):QE X (.List es pos) (VZ t):=.i (abU h.o)
theorem nP (h:QA X es t):QE X (.Tuple es k pos) (RN t):=.i (abT h.o)
def bU {K:ak} [kX:lr X K] (ha:QE X a ta) (hb:QE X b tb) (hs:Gj b:=by intro _ _;rfl):QE X (.Subscript a b pos) (gI (V5 K) ta tb):=by
 obtain⟨rfl⟩:=kX;exact(.i (RQ ZD ha.o hb.o hs))
def jE {K:ak} [kX:lr X K] (ha:QE X a ta) (hb:QE X b tb) (hs:Gj b:=by intro _ _;rfl):QE X (.Subscript a b pos) (gI (V6 K) ta tb):=by
 obtain⟨rfl⟩:=kX;exact(.i (RQ abY ha.o hb.o hs))
def aeS (ha:QE X a ta) (hb:QE X b tb) (hs:Gj b:=by intro _ _;rfl):QE X (.Subscript a b pos) (gI abX ta tb):=.i (RQ abZ ha.o hb.o hs)
theorem Jf:QO X none PR:=.i Zz
theorem nQ (h:QE X e te):QO X (some e) (Yd te):=.i (ZA h.o)
def zu {K:ak} [kX:lr X K] {lo hi:Option Expr} {tl th:TO} {p2:Pos} (he:QE X e te) (hl:QO X lo tl) (hu:QO X hi th):QE X (.Subscript e (.Slice lo hi none p2) pos) (tSl (ab1 K) te tl th):=by
 obtain⟨rfl⟩:=kX;exact(.i (V3 ZE he.o hl.o hu.o))
def E8 (sp:Sp) (E:XK) (t:TA):TE:=λσ H Q=>t σ H λvs H1=>sp vs H1 Q E
inductive acF (C:Addr) (m:Str) (sp:Sp) (E:XK) (t:TA) (σ : St) (Q:VK) (x:V) (H1:Hp):Prop where
 | mk a dx fs (_:x=.ref a) (_:H1 a=some (.ins C dx fs)) (_:fs.lookup m=none) (_:t σ H1 λvs H2=>sp (.ref a::vs) H2 Q E)
def HS (C:Addr) (m:Str) (sp:Sp) (E:XK) (ta:TE) (t:TA):TE:=λσ H Q=>ta σ H λx H1=>acF C m sp E t σ Q x H1
def HU (C:Addr) (sp:Sp) (E:XK) (t:TA):TE:=λσ H Q=>t σ H λvs H1=>∀x dx,H1 x=none->H1 dx=none->dx≠x->sp (.ref x::vs) (aX (aX H1 dx (.own x)) x (.ins C dx [])) (λv H2=>v=.cj/\Q (.ref x) H2) E
structure Yq (K:ak) (mg:Str->Option Value) (x:Str) (st:Stmt) (ps:List Str) where
 f:Addr
 fd:FuncData
 F:vQ K x x st f fd
 b:Binds K fd ps []
 m:mg x=some (.ref f)
structure yl (K:ak) (C:Addr) (x qual:Str) (st:Stmt) (ps:List Str) where
 f:Addr
 fd:FuncData
 F:vQ K x qual st f fd
 b:Binds K fd ps []
 mt:Meth K C x f
structure Qb (K:ak) (mg:Str->Option Value) (x qual:Str) (st:Stmt) (ps:List Str) where
 C:Addr
 f:Addr
 fd:FuncData
 F:vQ K "__init__" qual st f fd
 b:Binds K fd ps []
 ug:Mk K C f
 cl:zX K C
 m:mg x=some (.ref C)
structure cu (ps:List Str) where
 f:Addr
 fd:FuncData
 deriving Inhabited
structure GZ (ps:List Str) where
 C:Addr
 f:Addr
 fd:FuncData
 deriving Inhabited
structure cU (K:ak) (mg:Str->Option Value) (x:Str) (st:Stmt) {ps:List Str} (d:cu ps):Prop where
 F:vQ K x x st d.f d.fd
 b:Binds K d.fd ps []
 m:mg x=some (.ref d.f)
structure Ac (K:ak) (C:Addr) (x qual:Str) (st:Stmt) {ps:List Str} (d:cu ps):Prop where
 F:vQ K x qual st d.f d.fd
 b:Binds K d.fd ps []
 mt:Meth K C x d.f
structure Ll (K:ak) (mg:Str->Option Value) (x qual:Str) (st:Stmt) {ps:List Str} (d:GZ ps):Prop where
 F:vQ K "__init__" qual st d.f d.fd
 b:Binds K d.fd ps []
 ug:Mk K d.C d.f
 cl:zX K d.C
 m:mg x=some (.ref d.C)
def Yq.D {K:ak} {mg:Str->Option Value} {x:Str} {st:Stmt} {ps:List Str} (t:Yq K mg x st ps):cu ps:=⟨t.f,t.fd⟩
theorem Yq.P {K:ak} {mg:Str->Option Value} {x:Str} {st:Stmt} {ps:List Str} (t:Yq K mg x st ps):cU K mg x st t.D:=⟨t.F,t.b,t.m⟩
def yl.D {K:ak} {C:Addr} {x q:Str} {st:Stmt} {ps:List Str} (t:yl K C x q st ps):cu ps:=⟨t.f,t.fd⟩
theorem yl.P {K:ak} {C:Addr} {x q:Str} {st:Stmt} {ps:List Str} (t:yl K C x q st ps):Ac K C x q st t.D:=⟨t.F,t.b,t.mt⟩
def Qb.D {K:ak} {mg:Str->Option Value} {x q:Str} {st:Stmt} {ps:List Str} (t:Qb K mg x q st ps):GZ ps:=⟨t.C,t.f,t.fd⟩
theorem Qb.P {K:ak} {mg:Str->Option Value} {x q:Str} {st:Stmt} {ps:List Str} (t:Qb K mg x q st ps):Ll K mg x q st t.D:=⟨t.F,t.b,t.ug,t.cl,t.m⟩
variable {CX:zY} {k:Nat} {st:Stmt} {ps:List Str} {sp:Sp} {E:XK} {m qual:Str} {C:Addr}
def aJ {dF:cu ps} (T:cU X.K X.mg x st dF) (G:gH X.prog X.w X.K X.mg X.aS CX k dF.f dF.fd ps sp) (hr:fL k X.A) (hx:Passes CX X E) (ha:QA X (e::es) t) (hg:Gl X x:=by rfl) (o9:(x == ("__debug__" : Str))=false:=by decide)
  (he:starEach (e::es) X.env=(false,eval e X.env)::starEach es X.env:=by rfl) (iT:(backTo pos (starEach es X.env)).any (·.1)=false:=by rfl):QE X (.Call (.Name x p) (e::es) [] pos) (E8 sp E t):=
 .i λaf s σ H Q I q=>Zu G hr hg T.m T.F.kp T.b .nil hx ha.o o9 he iT af s σ H Q I (by
  have e1:RP sp [] E t=E8 sp E t:=by unfold RP E8;simp only[b5]
  rw[e1];exact q)
def eQ {dF:cu ps} (T:Ac X.K C m qual st dF) (cl:zX X.K C) (G:gH X.prog X.w X.K X.mg X.aS CX k dF.f dF.fd ps sp) (hr:fL k X.A) (hx:Passes CX X E) (ho:QE X o to) (ha:QA X (e::es) t) {pl:Sem Bool}
  (fk:starEach (e::es) X.env=(false,eval e X.env)::starEach es X.env:=by rfl) (iT:(backTo pos (starEach es X.env)).any (·.1)=false:=by rfl)
  (ht:eval (.Call (.Attribute o m apos) (e::es) [] pos) X.env=(do
   let ov <- eval o X.env
   standAt apos.atName
   let(f,first) <- holding [ov] (getMethod ov m pl)
   callWith pos f first (backTo pos (starEach (e::es) X.env)) (backToKw pos (keywordEach [] X.env))):=by rfl) :
  QE X (.Call (.Attribute o m apos) (e::es) [] pos) (HS C m sp E to t):=
 .i λaf s σ H Q I q=>Zv ho.o cl T.mt G hr T.b .nil hx ha.o fk iT ht af s σ H Q I (by
  have e:Mu C m sp [] E to t σ H Q=HS C m sp E to t σ H Q:=by
   show to σ H _=to σ H _;congr 1;funext x H1;apply propext;constructor
   ·rintro⟨a,dx,fs,rfl,h1,h2,h3⟩
    simp only[b5] at h3;exact⟨a,dx,fs,Z,h1,h2,h3⟩
   rintro⟨a,dx,fs,rfl,h1,h2,h3⟩;refine⟨a,dx,fs,Z,h1,h2,?_⟩;simp only[b5];exact h3
  rw[e];exact q)
def mq {dF:cu ps} (T:Ac X.K C m qual st dF) (cl:zX X.K C) (G:gH X.prog X.w X.K X.mg X.aS CX k dF.f dF.fd ps sp) (hr:fL k X.A) (hx:Passes CX X E) (ho:QE X o to) {pl:Sem Bool}
  (ht:eval (.Call (.Attribute o m apos) [] [] pos) X.env=(do
   let ov <- eval o X.env
   standAt apos.atName
   let(f,first) <- holding [ov] (getMethod ov m pl)
   callWith pos f first (backTo pos (starEach [] X.env)) (backToKw pos (keywordEach [] X.env))):=by rfl) :
  QE X (.Call (.Attribute o m apos) [] [] pos) (HS C m sp E to lO):=
 .i λaf s σ H Q I q=>V0 ho.o cl T.mt G hr T.b .nil hx ht af s σ H Q I (by
  have e:Mu C m sp [] E to lO σ H Q=HS C m sp E to lO σ H Q:=by
   show to σ H _=to σ H _;congr 1;funext x H1;apply propext;constructor
   ·rintro⟨a,dx,fs,rfl,h1,h2,h3⟩
    simp only[b5] at h3;exact⟨a,dx,fs,Z,h1,h2,h3⟩
   rintro⟨a,dx,fs,rfl,h1,h2,h3⟩;refine⟨a,dx,fs,Z,h1,h2,?_⟩;simp only[b5];exact h3
  rw[e];exact q)
def zw {r:List V->Hp->VK->Prop} {id:String} (hc:qm X (.builtin id) r) (hm:X.mg x=none) (hv:bootBuiltins x=some (.builtin id)) (ha:QA X (e::es) t) (hg:Gl X x:=by rfl) (hn:x≠"__name__":=by decide) (o9:(x == ("__debug__" : Str))=false:=by decide)
  (he:starEach (e::es) X.env=(false,eval e X.env)::starEach es X.env:=by rfl) (iT:(backTo pos (starEach es X.env)).any (·.1)=false:=by rfl):QE X (.Call (.Name x p) (e::es) [] pos) (Yb r t):=.i (V2 hc hg hm hv ha.o hn o9 he iT)
def Yr (hc:qm X (.type ty) r) (hm:X.mg x=none) (hv:bootBuiltins x=some (.type ty)) (ha:QA X (e::es) t) (hg:Gl X x:=by rfl) (hn:x≠"__name__":=by decide) (o9:(x == ("__debug__" : Str))=false:=by decide)
  (he:starEach (e::es) X.env=(false,eval e X.env)::starEach es X.env:=by rfl) (iT:(backTo pos (starEach es X.env)).any (·.1)=false:=by rfl):QE X (.Call (.Name x p) (e::es) [] pos) (Yb r t):=.i (Tx hc hg hm hv ha.o hn o9 he iT)
end
def t1 (r:V->Hp->VK->Prop) (ta:TE):TE:=λσ H Q=>ta σ H λx H1=>r x H1 Q
def t2 (r:R2) (ta tb:TE):TE:=λσ H Q=>ta σ H λx H1=>tb σ H1 λy H2=>r x y H2 Q
inductive acG (K:ak) (x:V) (H:Hp) (Q:VK):Prop where
 | mk p ys (_:x=.ref p) (_:(aO K H p ys\/gN K H p ys)) (_:Q (.int (ys.length:Nat)) H)
inductive R4 (x:V) (H:Hp) (Q:VK):Prop where
 | mk i (_:x=.int i) (_:Q (.int (if i < 0 then -i else i)) H)
inductive R5 (x:V) (y:V) (H:Hp) (Q:VK):Prop where
 | mk i j (_:x=.int i) (_:y=.int j) (_:Q (.int (if j > i then j else i)) H)
inductive Bw (x:V) (y:V) (H:Hp) (Q:VK):Prop where
 | mk i j (_:x=.int i) (_:y=.int j) (_:Q (.int (if j < i then j else i)) H)
inductive ahh (x:V) (H:Hp) (Q:VK):Prop where
 | mk i (_:x=.int i) (_:i.natAbs.log2 < 1920) (_:Q (.str (toString i)) H)
inductive ahi (x:V) (H:Hp) (Q:VK):Prop where
 | mk y (_:x=.str y) (_:y.length=1) (_:Q (.int (y.cps.getD 0 0:Nat)) H)
inductive aeT (K:ak) (x:V) (H:Hp) (Q:VK):Prop where
 | mk a (ns:List Int) (_:x=.ref a) (_:aO K H a (ns.map V.int)) (_:Q (.int ns.sum) H)
inductive aeU (K:ak) (x:V) (H:Hp) (Q:VK):Prop where
 | mk a (ns:List Int) (_:x=.ref a) (_:aO K H a (ns.map V.int)) (_:0 < ns.length) (_ :∀m,m∈ns->(∀y,y∈ns->m<=y)->Q (.int m) H)
inductive aeV (K:ak) (x:V) (H:Hp) (Q:VK):Prop where
 | mk a (bs:List Bool) (_:x=.ref a) (_:aO K H a (bs.map V.bl)) (_:Q (.bl (bs.any id)) H)
inductive aeW (K:ak) (x:V) (H:Hp) (Q:VK):Prop where
 | mk a (bs:List Bool) (_:x=.ref a) (_:aO K H a (bs.map V.bl)) (_:Q (.bl (bs.all id)) H)
inductive acH (K:ak) (x:V) (H:Hp) (Q:VK):Prop where
 | mk p ys (_:x=.ref p) (_:(aO K H p ys\/gN K H p ys)) (_ :∀l,H l=none->Q (.ref l) (aX H l (.lst ys)))
section
def ir {K:ak} [kX:lr X K] (hm:X.mg "len" = none) (ha:QE X a ta) (hg:Gl X "len":=by rfl) (hs:starEach [a] X.env=[(false,eval a X.env)]:=by rfl):QE X (.Call (.Name "len" p) [a] [] pos) (t1 (acG K) ta):=by
 obtain⟨rfl⟩:=kX;have z:=zw (p:=p) (pos:=pos) M4 hm PySem.boot_len (ae ha ao hs) hg (by decide) (by decide) hs rfl;refine cast (congrArg (QE X _) ?_) z;funext σ H Q;show ta σ H _=ta σ H _;congr 1;funext y H1;apply propext;constructor
 ·rintro⟨a,b,e,c,d⟩;cases e;exact⟨a,b,Z,c,d⟩
 rintro⟨a,b,rfl,c,d⟩;exact⟨a,b,Z,c,d⟩
def Jg (hm:X.mg "abs" = none) (ha:QE X a ta) (hg:Gl X "abs":=by rfl) (hs:starEach [a] X.env=[(false,eval a X.env)]:=by rfl):QE X (.Call (.Name "abs" p) [a] [] pos) (t1 R4 ta):=by
 have z:=zw (p:=p) (pos:=pos) VU hm PyProof.Rows.boot_abs (ae ha ao hs) hg (by decide) (by decide) hs rfl;refine cast (congrArg (QE X _) ?_) z;funext σ H Q;show ta σ H _=ta σ H _;congr 1;funext y H1;apply propext;constructor
 ·rintro⟨a,e,c⟩;cases e;exact⟨a,Z,c⟩
 rintro⟨a,rfl,c⟩;exact⟨a,Z,c⟩
def Ys (hm:X.mg "str" = none) (ha:QE X a ta) (hg:Gl X "str":=by rfl) (hs:starEach [a] X.env=[(false,eval a X.env)]:=by rfl):QE X (.Call (.Name "str" p) [a] [] pos) (t1 ahh ta):=by
 have z:=Yr (p:=p) (pos:=pos) MW hm PyProof.Rows.boot_str (ae ha ao hs) hg (by decide) (by decide) hs rfl;refine cast (congrArg (QE X _) ?_) z;funext σ H Q;show ta σ H _=ta σ H _;congr 1;funext y H1;apply propext;constructor
 ·rintro⟨a,e,c,d⟩;cases e;exact⟨a,Z,c,d⟩
 rintro⟨a,rfl,c,d⟩;exact⟨a,Z,c,d⟩
def aeX (hm:X.mg "ord" = none) (ha:QE X a ta) (hg:Gl X "ord":=by rfl) (hs:starEach [a] X.env=[(false,eval a X.env)]:=by rfl):QE X (.Call (.Name "ord" p) [a] [] pos) (t1 ahi ta):=by
 have z:=zw (p:=p) (pos:=pos) VV hm PyProof.Rows.boot_ord (ae ha ao hs) hg (by decide) (by decide) hs rfl;refine cast (congrArg (QE X _) ?_) z;funext σ H Q;show ta σ H _=ta σ H _;congr 1;funext y H1;apply propext;constructor
 ·rintro⟨a,e,c,d⟩;cases e;exact⟨a,Z,c,d⟩
 rintro⟨a,rfl,c,d⟩;exact⟨a,Z,c,d⟩
def acI {K:ak} [kX:lr X K] (hm:X.mg "list" = none) (ha:QE X a ta) (hg:Gl X "list":=by rfl) (hs:starEach [a] X.env=[(false,eval a X.env)]:=by rfl):QE X (.Call (.Name "list" p) [a] [] pos) (t1 (acH K) ta):=by
 obtain⟨rfl⟩:=kX;have z:=Yr (p:=p) (pos:=pos) M5 hm PyProof.Rows.boot_list (ae ha ao hs) hg (by decide) (by decide) hs rfl;refine cast (congrArg (QE X _) ?_) z;funext σ H Q;show ta σ H _=ta σ H _;congr 1;funext y H1;apply propext;constructor
 ·rintro⟨a,b,e,c,d⟩;cases e;exact⟨a,b,Z,c,d⟩
 rintro⟨a,b,rfl,c,d⟩;exact⟨a,b,Z,c,d⟩
def aeY {K:ak} [kX:lr X K] (hm:X.mg "sum" = none) (hc:X.calm=true) (ha:QE X a ta) (hg:Gl X "sum":=by rfl) (hs:starEach [a] X.env=[(false,eval a X.env)]:=by rfl):QE X (.Call (.Name "sum" p) [a] [] pos) (t1 (aeT K) ta):=by
 obtain⟨rfl⟩:=kX;have z:=zw (p:=p) (pos:=pos) (aca hc) hm PyProof.Rows.boot_sum (ae ha ao hs) hg (by decide) (by decide) hs rfl;refine cast (congrArg (QE X _) ?_) z;funext σ H Q;show ta σ H _=ta σ H _;congr 1;funext y H1;apply propext;constructor
 ·rintro⟨a,b,e,c,d⟩;cases e;exact⟨a,b,Z,c,d⟩
 rintro⟨a,b,rfl,c,d⟩;exact⟨a,b,Z,c,d⟩
def acJ {K:ak} [kX:lr X K] (hm:X.mg "min" = none) (hc:X.calm=true) (ha:QE X a ta) (hg:Gl X "min":=by rfl) (hs:starEach [a] X.env=[(false,eval a X.env)]:=by rfl):QE X (.Call (.Name "min" p) [a] [] pos) (t1 (aeU K) ta):=by
 obtain⟨rfl⟩:=kX;have z:=zw (p:=p) (pos:=pos) (acb hc) hm PyProof.Rows.boot_min (ae ha ao hs) hg (by decide) (by decide) hs rfl;refine cast (congrArg (QE X _) ?_) z;funext σ H Q;show ta σ H _=ta σ H _;congr 1;funext y H1;apply propext;constructor
 ·rintro⟨a,b,e,c,d,f⟩;cases e;exact⟨a,b,Z,c,d,f⟩
 rintro⟨a,b,rfl,c,d,f⟩;exact⟨a,b,Z,c,d,f⟩
def R6 {K:ak} [kX:lr X K] (hm:X.mg "any" = none) (hc:X.calm=true) (ha:QE X a ta) (hg:Gl X "any":=by rfl) (hs:starEach [a] X.env=[(false,eval a X.env)]:=by rfl):QE X (.Call (.Name "any" p) [a] [] pos) (t1 (aeV K) ta):=by
 obtain⟨rfl⟩:=kX;have z:=zw (p:=p) (pos:=pos) (acd hc) hm PyProof.Rows.boot_any (ae ha ao hs) hg (by decide) (by decide) hs rfl;refine cast (congrArg (QE X _) ?_) z;funext σ H Q;show ta σ H _=ta σ H _;congr 1;funext y H1;apply propext;constructor
 ·rintro⟨a,b,e,c,d⟩;cases e;exact⟨a,b,Z,c,d⟩
 rintro⟨a,b,rfl,c,d⟩;exact⟨a,b,Z,c,d⟩
def aeZ {K:ak} [kX:lr X K] (hm:X.mg "all" = none) (hc:X.calm=true) (ha:QE X a ta) (hg:Gl X "all":=by rfl) (hs:starEach [a] X.env=[(false,eval a X.env)]:=by rfl):QE X (.Call (.Name "all" p) [a] [] pos) (t1 (aeW K) ta):=by
 obtain⟨rfl⟩:=kX;have z:=zw (p:=p) (pos:=pos) (ace hc) hm PyProof.Rows.boot_all (ae ha ao hs) hg (by decide) (by decide) hs rfl;refine cast (congrArg (QE X _) ?_) z;funext σ H Q;show ta σ H _=ta σ H _;congr 1;funext y H1;apply propext;constructor
 ·rintro⟨a,b,e,c,d⟩;cases e;exact⟨a,b,Z,c,d⟩
 rintro⟨a,b,rfl,c,d⟩;exact⟨a,b,Z,c,d⟩
def R7 (hm:X.mg "max" = none) (hc:X.calm=true) (ha:QE X a ta) (hb:QE X b tb) (hg:Gl X "max":=by rfl) (hs:starEach [a,b] X.env=(false,eval a X.env)::starEach [b] X.env:=by rfl) (vE:starEach [b] X.env=[(false,eval b X.env)]:=by rfl):QE X (.Call (.Name "max" p) [a,b] [] pos) (t2 R5 ta tb):=by
 have z:=zw (p:=p) (pos:=pos) (Tq hc) hm PyProof.Rows.boot_max (ae ha (ae hb ao vE) hs) hg (by decide) (by decide) hs (by rw[vE];rfl);refine cast (congrArg (QE X _) ?_) z;funext σ H Q;show ta σ H _=ta σ H _;congr 1;funext y H1;show tb σ H1 _=tb σ H1 _;congr 1;funext y' H2;apply propext;constructor
 ·rintro⟨a,b,e,c⟩;cases e;exact⟨a,b,Z,Z,c⟩
 rintro⟨a,b,rfl,rfl,c⟩;exact⟨a,b,Z,c⟩
def vT (hm:X.mg "min" = none) (hc:X.calm=true) (ha:QE X a ta) (hb:QE X b tb) (hg:Gl X "min":=by rfl) (hs:starEach [a,b] X.env=(false,eval a X.env)::starEach [b] X.env:=by rfl) (vE:starEach [b] X.env=[(false,eval b X.env)]:=by rfl):QE X (.Call (.Name "min" p) [a,b] [] pos) (t2 Bw ta tb):=by
 have z:=zw (p:=p) (pos:=pos) (Tr hc) hm PyProof.Rows.boot_min (ae ha (ae hb ao vE) hs) hg (by decide) (by decide) hs (by rw[vE];rfl);refine cast (congrArg (QE X _) ?_) z;funext σ H Q;show ta σ H _=ta σ H _;congr 1;funext y H1;show tb σ H1 _=tb σ H1 _;congr 1;funext y' H2;apply propext;constructor
 ·rintro⟨a,b,e,c⟩;cases e;exact⟨a,b,Z,Z,c⟩
 rintro⟨a,b,rfl,rfl,c⟩;exact⟨a,b,Z,c⟩
inductive Nk (Q:VK) (x y:V) (H:Hp):Prop where
 | mk l xs (_:x=.ref l) (_:H l=some (.lst xs)) (_:xs.length < sizeLine) (_:Q .cj (aX H l (.lst (xs++[y]))))
def Wr (K:ak) (to te:TE):TE:=λσ H Q=>to σ H λx H1=>M6 K "list" x H1/\te σ H1 λy H2=>Nk Q x y H2
def qt {K:ak} [kX:lr X K] (ho:QE X o to) (he:QE X e te) (hs:starEach [e] X.env=[(false,eval e X.env)]:=by rfl) (kH:attributeBase o "append" X.env (eval o X.env)=eval o X.env:=by rfl) (l7:(apos.endLine == pos.line)=true:=by rfl) :
  QE X (.Call (.Attribute o "append" apos) [e] [] pos) (Wr K to te):=by
 obtain⟨rfl⟩:=kX;have z:=QE.i (RS (cpos:=pos) (apos:=apos) PySem.F.plainAttrs_list PySem.F.slot_list_append PySem.F.type_list_append TH ho.o (ae he ao hs).o kH (by rw[hs];rfl) l7 hs rfl);refine cast (congrArg (QE X _) ?_) z;funext σ H Q;show to σ H _=to σ H _;congr 1;funext x H1;show(_/\te σ H1 _)=(_/\te σ H1 _);congr 2;funext y H2;apply propext;constructor
 ·rintro⟨l,xs,y',e1,e2,r1,r2,r3⟩
  cases e2;exact⟨l,xs,e1,r1,r2,r3⟩
 rintro⟨l,xs,e1,r1,r2,r3⟩;exact⟨l,xs,y,e1,Z,r1,r2,r3⟩
def Ws (K:ak) (to te:TE):TE:=λσ H Q=>to σ H λx H1=>M6 K "list" x H1/\te σ H1 λy H2=>PX x [y] H2 Q
def DE {K:ak} [kX:lr X K] (ho:QE X o to) (he:QE X e te) (hs:starEach [e] X.env=[(false,eval e X.env)]:=by rfl) (kH:attributeBase o "extend" X.env (eval o X.env)=eval o X.env:=by rfl) (l7:(apos.endLine == pos.line)=true:=by rfl) :
  QE X (.Call (.Attribute o "extend" apos) [e] [] pos) (Ws K to te):=by
 obtain⟨rfl⟩:=kX;exact(QE.i (RS (cpos:=pos) (apos:=apos) PySem.F.plainAttrs_list PySem.F.slot_list_extend PySem.F.type_list_extend TJ ho.o (ae he ao hs).o kH (by rw[hs];rfl) l7 hs rfl))
def ahj (K:ak) (to:TE):TE:=λσ H Q=>to σ H λx H1=>M6 K "list" x H1/\ab6 x [] H1 Q
def Yt {K:ak} [kX:lr X K] (ho:QE X o to) (kH:attributeBase o "pop" X.env (eval o X.env)=eval o X.env:=by rfl) (l7:(apos.endLine == pos.line)=true:=by rfl):QE X (.Call (.Attribute o "pop" apos) [] [] pos) (ahj K to):=by
 obtain⟨rfl⟩:=kX;exact(QE.i (ab3 (cpos:=pos) (apos:=apos) PySem.F.plainAttrs_list PySem.F.slot_list_pop PySem.F.type_list_pop ab7 ho.o kH l7))
def ae0 (K:ak) (to te:TE):TE:=λσ H Q=>to σ H λx H1=>(∃a,x=.str a)/\te σ H1 λy H2=>∃a p,∃ys:List Str,x=.str a/\y=.ref p/\(aO K H2 p (ys.map V.str)\/gN K H2 p (ys.map V.str))/\(ys.map (·.length)).sum+ys.length * a.length<=16777216/\Q (.str (Txt.join a ys)) H2
def Ub {K:ak} [kX:lr X K] (ho:QE X o to) (he:QE X e te) (hs:starEach [e] X.env=[(false,eval e X.env)]:=by rfl) (kH:attributeBase o "join" X.env (eval o X.env)=eval o X.env:=by rfl) (l7:(apos.endLine == pos.line)=true:=by rfl) :
  QE X (.Call (.Attribute o "join" apos) [e] [] pos) (ae0 K to te):=by
 obtain⟨rfl⟩:=kX;have z:=QE.i (ZM (pos:=pos) (apos:=apos) ho.o he.o hs kH l7);refine cast (congrArg (QE X _) ?_) z;funext σ H Q;show to σ H _=to σ H _;congr 1;funext x H1;show(_/\te σ H1 _)=(_/\te σ H1 _);congr 2;funext y H2;apply propext;simp only[lO,eM,vB.injEq,and_true]
theorem gO:GX X [] HL:=.i ZI
theorem E9 (h:QT X c tt):GX X [c] tt:=.i (ZJ h.o)
def lP (own:List (Str × Nat)) (hc:X.calm=true) (hN:X.N.Nodup) (hi:QI X tg iter wi) (ok:Dv X.N X.env.scope scope own)
  (hg :∀(s:Shared) (H:Hp) (C:Addr) (cl:List (Str × Addr)) (fp:List Addr),QG (X.p6 s H scope (compEnvC scope cl C X.env) fp) tg g) (ht :∀(s:Shared) (H:Hp) (C:Addr) (cl:List (Str × Addr)) (fp:List Addr),GX (X.p6 s H scope (compEnvC scope cl C X.env) fp) ifs tt)
  (he :∀(s:Shared) (H:Hp) (C:Addr) (cl:List (Str × Addr)) (fp:List Addr),QE (X.p6 s H scope (compEnvC scope cl C X.env) fp) vP te) (hs :∀x,foldedSetIterable iter X.env x=pure x:=by intro _;rfl) :
  QE X (.ListComp vP [⟨tg,iter,ifs,0⟩] scope pos) (P0 wi g tt te (own.map (·.2))):=
 .i (aeH hc hN hi.o ok (λs H C cl fp=>(hg s H C cl fp).o) (λs H C cl fp=>(ht s H C cl fp).o) (λs H C cl fp=>(he s H C cl fp).o) hs)
def fo {K:ak} [kX:lr X K] (hl:QE X a ta):QI X tg a (X0 K ta):=by
 obtain⟨rfl⟩:=kX;exact(.i (Zl hl.o))
theorem ae1 (hl:QE X a ta):QI X tg a (acm ta):=.i (acn hl.o)
inductive acK (R:It->Hp->Prop) (x:V) (H1:Hp):Prop where
 | mk (j:Int) (_:x=.int j) (_:-(2 ^ 62)<=j) (_:j < 2 ^ 62) (_:R (yX 0 j.toNat) H1)
def ahk (ta:TE):TI:=λσ H R=>ta σ H λx H1=>acK R x H1
def nR (hm:X.mg "range" = none) (ha:QE X a ta) (hg:Gl X "range":=by rfl) (hs:starEach [a] X.env=[(false,eval a X.env)]:=by rfl):QI X tg (.Call (.Name "range" p) [a] [] pos) (ahk ta):=by
 have z:=QI.i (tg:=tg) (Ti (p:=p) (pos:=pos) hg hm (ae ha ao hs).o hs);refine cast (congrArg (QI X _ _) ?_) z;funext σ H R;show ta σ H _=ta σ H _;congr 1;funext y H1;apply propext;constructor
 ·rintro⟨a,e,c,d,f⟩;cases e;exact⟨a,Z,c,d,f⟩
 rintro⟨a,rfl,c,d,f⟩;exact⟨a,Z,c,d,f⟩
def gu (i:Nat) (hN:X.N.Nodup) (hi:X.N[i]?=some x:=by rfl) (hx:Loc X.env.scope x:=by first | exact Or.inl rfl | exact Or.inr rfl) (hf:X.fn x=true\/X.env.scope.names.lookup x=some .local:=by first | exact .inl rfl | exact .inr rfl):QG X (.Name x pos) (l5 i):=.i (Zi hN hi hx hf)
theorem Jh:GW X [] abj:=.i Zj
def u7 (h1:QG X e g) (h2:GW X es u) (hs:(assignEach (e::es) X.env).map (·.2)=assign e X.env::(assignEach es X.env).map (·.2):=by rfl):GW X (e::es) (XZ g u):=.i (VO h1.o h2.o hs)
def My {K:ak} [kX:lr X K] (hc:X.calm=true) (h:GW X es u) (hn:(assignEach es X.env).length=n:=by rfl) (fk:(assignEach es X.env).findIdx? (·.1)=none:=by rfl):QG X (.Tuple es k pos) (abk K n u):=by
 obtain⟨rfl⟩:=kX;exact(.i (abl hc h.o hn fk))
def acL (ho:QE X o to) (hi:QE X i ti)
  (ha :∀v,assign (.Subscript o i pos) X.env v=(do
   let ov <- holding [v] (eval o X.env)
   let iv <- holding [v,ov] (eval i X.env)
   standAt pos
   holding [v,ov,iv] (setItem ov iv v)
   release [v,ov,iv] []):=by intro _;rfl):QG X (.Subscript o i pos) (RD to ti Mw):=.i (abm ho.o hi.o set_list ha)
variable {st:Stmt} {ss:List Stmt} {ts tu:TS} {tA:TT}
theorem bp:QB X [] Dk:=.i Zf
theorem aj (h1:QS X st ts) (h2:QB X ss tu):QB X (st::ss) (rC ts tu):=.i (VM h1.o h2.o)
theorem aq (h1:QS X st ts):QB X [st] ts:=.i (Zg h1.o)
def dC (he:QE X e te) (hs:swapsWith e none pos.line X.env=pure false:=by rfl):QS X (.Expr e pos) (Bo te):=.i (Zh he.o hs)
theorem aD (he:QE X e te):QS X (.Return (some e) pos) (ql te):=.i (abf he.o)
theorem bG (hc:QT X c tA) (ha:QB X sa ts) (hb:QB X sb tu):QS X (.If c sa sb pos) (HH tA ts tu):=.i (aez hc.o ha.o hb.o)
def aZ (i:Nat) (hN:X.N.Nodup) (he:QE X e te) (hi:X.N[i]?=some x:=by rfl) (hx:Loc X.env.scope x:=by first | exact Or.inl rfl | exact Or.inr rfl) (hs:swapsWith e (some (.Name x jz)) pos.line X.env=pure false:=by rfl)
  (hf:X.fn x=true\/X.env.scope.names.lookup x=some .local:=by first | exact .inl rfl | exact .inr rfl):QS X (.Assign [.Name x jz] e pos) (vN te (l5 i)):=.i (abo hN hi hx he.o hs hf)
def Yu (he:QE X e te) (hg:QG X tg g) (hs:swapsWithSole [tg] e pos.line X.env=pure false:=by rfl) (hw:swappedStores [tg] e X.env=pure none:=by rfl) (h1:(assignEach [tg] X.env).map (·.2)=[assign tg X.env]:=by rfl):QS X (.Assign [tg] e pos) (vN te g):=.i (abn he.o hg.o hs hw h1)
def eR {K:ak} [kX:lr X K] (ho:QE X o to) (he:QE X e te) (hs:swapsWith e (some (.Attribute o f jz)) pos.line X.env=pure false:=by rfl):QS X (.Assign [.Attribute o f jz] e pos) (abM K to te f):=by
 obtain⟨rfl⟩:=kX;exact(.i (abO ho.o he.o hs))
def Fb (i:Nat) (hN:X.N.Nodup) (he:QE X e te) (hi:X.N[i]?=some x:=by rfl) (hx:Loc X.env.scope x:=by first | exact Or.inl rfl | exact Or.inr rfl) (hf:X.fn x=true\/X.env.scope.names.lookup x=some .local:=by first | exact .inl rfl | exact .inr rfl) :
  QS X (.AugAssign (.Name x jz) .Add e pos) (RE i te (Tf λi j=>i+j)):=.i (Te hN hi hx he.o abp hf)
def CC {K:ak} [kX:lr X K] (ho:QE X o to) (he:QE X e te):QS X (.AugAssign (.Attribute o f jz) .Add e pos) (zI K to te MX f):=by
 obtain⟨rfl⟩:=kX;exact(.i (KZ ho.o he.o abQ))
def acM {K:ak} [kX:lr X K] (ho:QE X o to) (he:QE X e te):QS X (.AugAssign (.Attribute o f jz) .Sub e pos) (zI K to te abP f):=by
 obtain⟨rfl⟩:=kX;exact(.i (KZ ho.o he.o abR))
theorem u9 (hp:PassesOwn (model X.prog X.w) X.A X.env X.xe) (hc:QT X c tA) (hb:QB X ss ts):QS X (.While c ss [] pos) (Tg tA ts):=.i (VP hp hc.o hb.o)
def kJ (hp:PassesOwn (model X.prog X.w) X.A X.env X.xe) (hc:X.calm=true) (hi:QI X tg iter wi) (hg:QG X tg g) (hb:QB X ss ts) (hs :∀x,foldedSetIterable iter X.env x=pure x:=by intro _;rfl) :
  QS X (.For tg iter ss [] pos) (abu wi g ts):=.i (abv hp hc hi.o hg.o hb.o hs)
def Ji {K:ak} [kX:lr X K] (ha:QE X a ta) (he :∀whole,isTrue a X.env whole=(do let v <- whole;standAt a.pos;holding [v] (truthy v)):=by intro _;rfl):QT X a (λσ H Q=>ta σ H λx H1=>∃k,VS K x H1 k/\Q k H1):=by
 obtain⟨rfl⟩:=kX;exact(.i (VT ha.o he))
end
theorem fL.le (r:fL k A) (h:Nat.ble j k=true):fL j A:=r.mono (ag h)
section
variable {P:Program} {w:World} {K:ak} {mg:Str->Option Value} {aS:Heap}
def vQ.run {x qual:Str} {st:Stmt} {f:Addr} {fd:FuncData} {N ps:List Str} {k:Nat} {sp:Sp} (F:vQ K x qual st f fd) (S:aH N ps (ax st))
  (zp :∀(bx:Value) (A:Around) (outer:List Env) (s:Shared) (H:Hp) (vs:List V) (Q:VK) (E:XK),fL k (A.deeper (envOfC qual (ax st) s.heap.objs.size f bx))->sp vs H Q E->
   ∃t,QB (rX aL P w K mg aS N qual (ax st) f bx A outer s H E).D9 (kj st) t/\t { nx:=λ_ H'=>Q .cj H',rt:=Q } (L2.start N vs) H) (len :∀vs H Q E,sp vs H Q E->vs.length=ps.length:=by intro _ _ _ _ h;first | (cases h;subst_vars;rfl) | ((repeat obtain⟨_,h⟩:=h);subst_vars;rfl)):gH P w K mg aS aL (k+1) f fd ps sp:=
 F.ok S len λbx A outer s H vs Q E hr h=>let⟨t,a,b⟩:=zp bx A outer s H vs Q E hr h;⟨t,a.o,b⟩
def vQ.yC {x qual:Str} {st:Stmt} {f:Addr} {fd:FuncData} {N ps:List Str} {k:Nat} {sp:Sp} (F:vQ K x qual st f fd) (S:aH N ps (ax st))
  (zp :∀(bx:Value) (A:Around) (outer:List Env) (s:Shared) (H:Hp) (vs:List V) (Q:VK) (E:XK),fL k (A.deeper (envOfC qual (ax st) s.heap.objs.size f bx))->sp vs H Q E->
   ∃t,QB (rX (gC P w) P w K mg aS N qual (ax st) f bx A outer s H E) (kj st) t/\t { nx:=λ_ H'=>Q .cj H',rt:=Q } (L2.start N vs) H) (len :∀vs H Q E,sp vs H Q E->vs.length=ps.length:=by intro _ _ _ _ h;first | (cases h;subst_vars;rfl) | ((repeat obtain⟨_,h⟩:=h);subst_vars;rfl)):gH P w K mg aS (gC P w) (k+1) f fd ps sp:=
 F.okX S len λbx A outer s H vs Q E hr h=>let⟨t,a,b⟩:=zp bx A outer s H vs Q E hr h;⟨t,a.o,b⟩
end
open PySem.W (WData)
structure TuT (K:ak) (mg:Str->Option Value) (x:Str) (xs:List V) where
 a:Addr
 m:mg x=some (.ref a)
 q :∀H:Hp,gN K H a xs
 t :∃o,K.lookup a=some o/\o.cls=.type "tuple"/\o.dict=none
structure DwT (K:ak) (mg:Str->Option Value) (x:Str) (d:WData) where
 a:Addr
 m:mg x=some (.ref a)
 q :∀H:Hp,Dw K H (.ref a) d
structure DiT (P:Program) (w:World) (K:ak) (mg:Str->Option Value) (x:Str) (fV:List (Key × V)) where
 a:Addr
 m:mg x=some (.ref a)
 nm:(a == sysModules)=false
 q :∀h:Heap,K.In h->∃vs,KV fV vs/\h.DictOf (lq P w) a vs
structure G0 (K:ak) (mg:Str->Option Value) (x:Str) (xs:List V) (a:Addr):Prop where
 m:mg x=some (.ref a)
 q :∀H:Hp,gN K H a xs
 t :∃o,K.lookup a=some o/\o.cls=.type "tuple"/\o.dict=none
structure DwF (K:ak) (mg:Str->Option Value) (x:Str) (d:WData) (a:Addr):Prop where
 m:mg x=some (.ref a)
 q :∀H:Hp,Dw K H (.ref a) d
structure Lm (P:Program) (w:World) (K:ak) (mg:Str->Option Value) (x:Str) (fV:List (Key × V)) (a:Addr):Prop where
 m:mg x=some (.ref a)
 nm:(a == sysModules)=false
 q :∀h:Heap,K.In h->∃vs,KV fV vs/\h.DictOf (lq P w) a vs
section
inductive ahl (fV:List (Key × V)) (y:V) (H:Hp) (Q:VK):Prop where
 | mk k v (_:y=kV k) (_:qp fV k=some v) (_:Q v H)
def Yv (T:Lm X.prog X.w X.K X.mg x fV dF) (hu:X.A.units+1 < cLine) (hi:QE X b tb) (hg:Gl X x:=by rfl) (hd:(x == ("__debug__" : Str))=false:=by decide) (hs:acj b:=by intro _ _;rfl):QE X (.Subscript (.Name x p) b pos) (t1 (ahl fV) tb):=by
 refine .i λaf s σ H Q I h=>?_;refine ZK PySem.F.slot_dict_getitem.lookup hs (mZ I hg T.m ?_ hd);refine cX (hi.o af s σ H _ I h) λiv s2 ⟨y,H2,I2,ry,k,v,ey,l,q2⟩=>?_;subst ey;obtain⟨vs,rel,dd⟩:=T.q _ I2.j9;obtain⟨w',hw,Tz⟩:=rT.some_of (v:=v) (o:=valueAt vs k) (by rw[<- l];exact rel.val k);exact⟨dd.typeIs,wpAny_getItem_of (RW ry) dd.mapOf hw ⟨v,H2,I2.tok _,Tz,q2⟩⟩
inductive acN (fV:List (Key × V)) (y:V) (H:Hp) (Q:VK):Prop where
 | mk k (_:y=kV k) (_:Q (.bl (qp fV k).isSome) H)
def acO (T:Lm X.prog X.w X.K X.mg x fV dF) (hi:QE X b tb) (hg:Gl X x) (hd:(x == ("__debug__" : Str))=false):PC X .In b (.Name x p) (t1 (acN fV) tb):=by
 intro af s σ H Q I h;refine cX (hi.o af s σ H _ I h) λiv s1 ⟨y,H1,I1,ry,k,ey,q1⟩=>mZ I1 hg T.m ?_ hd;subst ey;obtain⟨vs,rel,dd⟩:=T.q _ I1.j9;refine wpAny_in_of (RW ry) T.nm dd.mapOf ?_;rw[<- (rel.val k).TR];exact⟨.bl _,H1,I1.tok _,Z,q1⟩
def ae2 (T:Lm X.prog X.w X.K X.mg x fV dF) (hu:X.A.units+1 < cLine) (hi:QE X b tb) (hg:Gl X x:=by rfl) (hd:(x == ("__debug__" : Str))=false:=by decide) (hm:behindInMarks .In (.Name x p)=false:=by rfl):QT X (.Compare b [.In] [.Name x p] pos) (L2.tB (t1 (acN fV) tb)):=.i (MP (acO T hi hg hd) hm)
inductive ae3 (fV:List (Key × V)) (y:V) (z:V) (H:Hp) (Q:VK):Prop where
 | mk k (_:y=kV k) (_:Q ((qp fV k).getD z) H)
def Uc (T:Lm X.prog X.w X.K X.mg x fV dF) (hu:X.A.units+1 < cLine) (hi:QE X b tb) (hf:QE X c tc) (hg:Gl X x:=by rfl) (hd:(x == ("__debug__" : Str))=false:=by decide)
  (hs:starEach [b,c] X.env=[(false,eval b X.env),(false,eval c X.env)]:=by rfl) (kH:attributeBase (.Name x p) "get" X.env (eval (.Name x p) X.env)=eval (.Name x p) X.env:=by rfl) (l7:(apos.endLine == pos.line)=true:=by rfl) :
  QE X (.Call (.Attribute (.Name x p) "get" apos) [b,c] [] pos) (t2 (ae3 fV) tb tc):=by
 refine .i λaf s σ H Q I h=>?_;have tr:backTo pos (starEach [b,c] X.env)=[(false,eval b X.env),(false,eval c X.env)]:=by rw[hs];rfl
 refine wpAny_Call_method kH (by rw[tr];rfl) l7 PySem.F.plainAttrs_dict PySem.F.slot_dict_get PySem.F.type_dict_get (mZ I hg T.m ?_ hd);obtain⟨vs,rel,dd⟩:=T.q _ I.j9;refine⟨dd.typeIs,λb' q=>?_,?_⟩
 ·cases q
  obtain⟨ob,_,_,h1,h2,_⟩:=dd;exact⟨ob,h1,h2.2.1⟩
 rw[tr];refine Calls.callWith_builtin rfl (Calls.evalArgs_plain (Calls.spliced_cons (cX (hi.o af s σ H _ I h) λiv s2 ⟨y,H2,I2,ry,q2⟩=>
  Calls.spliced_cons (cX (hf.o af s2 σ H2 _ I2 q2) λfv s3 ⟨z,H3,I3,rz,k,ey,q3⟩=>Calls.spliced_nil ?_))))
 subst ey;obtain⟨vs3,ahm,dd3⟩:=T.q _ I3.j9;exact call_meetsIn PySem.F.slot_dict_get dd3.typeIs PySem.F.entry_dict_get (PySem.F.args_dict_get_3 _ _ _) (meets_dict_get_default (lq X.prog X.w) dF (RW ry) T.nm fv) ⟨_,dd3.mapOf,⟨_,H3,I3.tok _,(ahm.val k).getD rz,q3⟩⟩
end
section
variable {X:Cx} {a b c o e:Expr} {es:List Expr} {ta tb tc te to:TE} {t:TA} {pos p np hp cp rp apos jz:Pos} {x:Str} {C fI:Addr} {fd:FuncData} {k:Nat} {E:XK} {nm f:Str}
def acP (T:uK X.K C fI) (hf:f = "number"\/f = "place") (ho:QE X o to) (he:QE X e te) (hs:swapsWith e (some (.Attribute o f jz)) pos.line X.env=pure false:=by rfl):QS X (.Assign [.Attribute o f jz] e pos) (sXf C to te f):=.i (aeN T hf ho.o he.o hs)
def Ki (T:uK X.K C fI) (G:gH X.prog X.w X.K X.mg X.aS aL k fI fd ["self","number","place"] (E6 C)) (hr:fL (k+1) X.A) (b:Binds X.K fd ["self","number","place"] []) (hm:X.mg nm=some (.ref C)) (R1:X.calm=true) (hex:X.ex=[]) (ha:QA X (e::es) t)
  (hX :∀af σ H s x dx,Inv X af σ H s->XX.XO s.heap (Nw X.mH.heap H) x C dx none->E (.ref C) (some dx) H->X.xe (.ref x) s) (hg:Gl X nm:=by rfl)
  (o9:(nm == ("__debug__" : Str))=false:=by decide) (he:starEach (e::es) X.env=(false,eval e X.env)::starEach es X.env:=by rfl) (iT:(backTo cp (starEach es X.env)).any (·.1)=false:=by rfl) :
  QS X (.Raise (some (.Call (.Name nm np) (e::es) [] cp)) none pos) (Jc C E t):=.i (Wm T G hr b hg hm R1 hex ha.o hX o9 he iT)
variable {fn:Str} {st:Stmt} {ps:List Str} {sp:Sp} {b0:Stmt} {ux:List Stmt} {ts:TS}
def Ud (T:uK X.K C fI) (fk:X.stack=X.env::X.outer) (mV:X.env.frame=some X.env.locals) (mF:X.mg nm=some (.ref C)) {dF:cu ps} (TF:cU X.K X.mg fn st dF) (G:gH X.prog X.w X.K X.mg X.aS (gC X.prog X.w) k dF.f dF.fd ps sp) (hr:fL k X.A)
  (ha:QA X.D9 (e::es) t) (hs :∀x,QB (X.exc x) (b0::ux) ts) (gF:Gl X nm:=by rfl) (hg:Gl X fn:=by rfl) (Nj:(nm == ("__debug__" : Str))=false:=by decide) (Cz:(fn == ("__debug__" : Str))=false:=by decide)
  (he:starEach (e::es) X.env=(false,eval e X.env)::starEach es X.env:=by rfl) (iT:(backTo cp (starEach es X.env)).any (·.1)=false:=by rfl) :
  QS X (.Try [.Return (some (.Call (.Name fn p) (e::es) [] cp)) rp] [.ExceptHandler (some (.Name nm np)) none (b0::ux) hp] [] [] pos) (Yp C sp t ts):=
 .i (ZT T fk mV gF mF G hr hg TF.m TF.F.kp TF.b ha.o (λx=>(hs x).o) Nj Cz he iT)
end
open PySem.AutoSeq1 (wpAny_loadPart')
def Kj {M:Model} {A:Around} {E:Value->Shared->Prop} {s:Shared} {β : Type} {b:Nat} (f:Nat->β->Sem (ForInStep β)) (I:List Nat->β->Shared->Prop) (Q:β->Shared->Prop)
  (turn :∀x je b s,I (x::je) b s->wpAny M A (f x b) (λr s'=>match r with | .yield b'=>I je b' s' | .done b'=>Q b' s') E s)
  (di :∀b s,I [] b s->Q b s) (st:β) (h:I (HE 0 b) st s):wpAny M A (forIn [0:b] st f) Q E s:=by
 have e:(forIn [0:b] st f:Sem β)=forIn (HE 0 b) st f:=by
  simp[Std.Legacy.Range.forIn_eq_forIn_range',Std.Legacy.Range.size]
 rw[e];exact wpAny_forIn_list f I Q turn di _ st h
def Mb (l:Addr) (items:Array Value) (n:Nat) (dd:Option Addr) (sl:Array (Option Value)) (x:Value) (e:Value->Bool) (j:Nat) (hj:j < items.size)
  (rG:e items[j]=true) (iU :∀m (hm:m < items.size),m < j->e items[m]=false) :
  Meets (Builtin.«tuple.index» ⟨[.ref l,x],[]⟩)
   (λA R s=>s.heap.get? l=some { cls:=.type "tuple",dict:=dd,data:=.seq items n,slots:=sl }/\(∀y,y∈items->eX A.in1 s y x (e y))/\R (.ok (.ret (.int j s.toks))) { s with toks:=s.toks+1 }):=
 .of_wp λprog w A R s h=>by
  obtain⟨hp,g,d,tk,os⟩:=s;obtain⟨hl,he,h⟩:=h
  wp_walk using wpAny_loadPart' hl,Kj _ (λje b s'=>b.1=none/\s'=⟨hp,g,d,tk,os⟩/\∃i,i<=j/\je=HE i (items.size - i)) _
  case turn=>
   rintro y je b s' ⟨hb,rfl,i,hij,hr⟩;have hi:i < items.size:=by lia
   obtain⟨k,hk⟩ :∃k,items.size - i=k+1:=⟨items.size - i - 1,by lia⟩
   rw[hk,List.range'_succ] at hr;obtain⟨rfl,hr⟩:=vB.inj hr;rw[Array.getElem?_eq_getElem hi];refine wpAny_bind (he _ (Array.getElem_mem hi) prog w _ _ ?_);by_cases hy:y=j
   ·subst hy
    rw[rG]
    wp_walk
    exact⟨_,Z,h⟩
   rw[iU y hi (by lia)]
   wp_walk
   exact⟨Z,Z,y+1,by lia,by rw[hr,show items.size - (y+1)=k from by lia]⟩
  case di=>
   rintro⟨b1,b2⟩ s' ⟨hb,rfl,i,hij,hr⟩;have:=congrArg dA hr;simp at this
   lia
  case h=>
   exact⟨Z,Z,0,bK _,by simp⟩
inductive ahn (K:ak) (x:V) (xs:List V) (H:Hp) (Q:VK):Prop where
 | mk (a:Addr) (ys:List V) (y:V) (j:Nat) (z:V) (_:x=V.ref a) (_:xs=[y]) (_:gN K H a ys) (_:qo y=true) (_:ys.all qo=true) (_:ys[j]?=some z) (_:Bs z y=true) (_:(∀(m:Nat) (z':V),m < j->ys[m]?=some z'->Bs z' y=false)) (_:Q (.int (j:Nat)) H)
section
def acQ:PV X "tuple.index" (ahn X.K):=by
 intro af s σ H x xs v us Q I rx rxs h;obtain⟨a,ys,y,j,z,rfl,rfl,hs,fy,fys,hz,hzj,iU,q⟩:=h;cases rx;cases rxs with
 | cons ry rt=>
  rename_i uy ut;cases rt;obtain⟨bq,rv,⟨⟨cls,dd,data,sl⟩,ho,hc,n,hd⟩,eP⟩:=I.tuple hs;simp only at hc hd;subst hc hd;obtain⟨u,hu,ru⟩:=rv.get hz;obtain⟨hjl,hje⟩:=az.mp hu;have Ue:=rv.length;have hj:j < bq.toArray.size:=by simpa using hjl
  refine call_meets PySem.F.slot_tuple_index ⟨_,ho,Z⟩ PySem.F.entry_tuple_index (PySem.F.args_tuple_index_2 _ _)
   (Mb a bq.toArray n dd sl uy (yY y) j hj ?_ ?_) ⟨ho,λu' hu'=>xr ry fy rv fys u' (by simpa using hu'),?_⟩
  ·have e1:bq.toArray[j]=u:=by simpa using hje
   rw[e1,IU ru (PY fys hz)];exact hzj
  ·intro m hm hmj
   have hml:m < bq.length:=by simpa using hm
   have hmy:m < ys.length:=by lia
   have TL:ys[m]?=some ys[m]:=aw hmy;obtain⟨u2,hu2,ru2⟩:=rv.get TL;obtain⟨_,hme⟩:=az.mp hu2;have e1:bq.toArray[m]=u2:=by simpa using hme
   rw[e1,IU ru2 (PY fys TL)];exact iU m _ hmj TL
  exact⟨.int (j:Nat),H,I.tok _,⟨_,Z⟩,q⟩
def Yw (xs:List V):V->Hp->VK->Prop:=λy H Q=>qo y=true/\xs.all qo=true/\∃(j:Nat) (z:V),xs[j]?=some z/\Bs z y=true/\(∀(m:Nat) (z':V),m < j->xs[m]?=some z'->Bs z' y=false)/\Q (.int (j:Nat)) H
def Yx (T:G0 X.K X.mg x xs dF) (hb:QE X b tb) (hg:Gl X x:=by rfl) (hd:(x == ("__debug__" : Str))=false:=by decide) (hs:starEach [b] X.env=[(false,eval b X.env)]:=by rfl)
  (kH:attributeBase (.Name x p) "index" X.env (eval (.Name x p) X.env)=eval (.Name x p) X.env:=by rfl) (l7:(apos.endLine == pos.line)=true:=by rfl) :
  QE X (.Call (.Attribute (.Name x p) "index" apos) [b] [] pos) (t1 (Yw xs) tb):=by
 have hm:PV X "tuple.index" (λx ys H Q=>∃y,x=.ref dF/\ys=[y]/\Yw xs y H Q):=λaf s σ H x ys v us Q I rx rxs ⟨y,e1,e2,f1,f2,j,z,h1,h2,h3,q⟩=>
  acQ af s σ H x ys v us Q I rx rxs ⟨dF,xs,y,j,z,e1,e2,T.q H,f1,f2,h1,h2,h3,q⟩
 have z:=QE.i (RS (cpos:=pos) (apos:=apos) PySem.F.plainAttrs_tuple PySem.F.slot_tuple_index PySem.F.type_tuple_index hm (mX (pos:=p) T.m hg hd).o (ae hb ao hs).o kH (by rw[hs];rfl) l7 hs rfl);refine cast (congrArg (QE X _) ?_) z;funext σ H Q;show(_/\tb σ H _)=tb σ H _;rw[eq_true (show M6 X.K "tuple" (.ref dF) H from .inr (.inl ⟨Z,T.t⟩)),true_and];congr 1;funext y H2;apply propext;constructor
 ·rintro⟨y',_,e2,r⟩
  cases e2;exact r
 intro r;exact⟨y,Z,Z,r⟩
end
section
def vU (ug:Mk X.K C f) (b:Binds X.K fd ps []) (m:X.mg x=some (.ref C)) (G:gH X.prog X.w X.K X.mg X.aS CX k f fd ps sp) (hr:fL (k+1) X.A) (hx:Passes CX X E) (ha:QA X (e::es) t) (hg:Gl X x:=by rfl) (o9:(x == ("__debug__" : Str))=false:=by decide)
  (he:starEach (e::es) X.env=(false,eval e X.env)::starEach es X.env:=by rfl) (iT:(backTo pos (starEach es X.env)).any (·.1)=false:=by rfl):QE X (.Call (.Name x p) (e::es) [] pos) (HU C sp E t):=
 .i λaf s σ H Q I q=>Zw ug G hr hg m b .nil hx ha.o o9 he iT af s σ H Q I (by
  have e1:Mv C sp [] E t=HU C sp E t:=by unfold Mv HU;simp only[b5]
  rw[e1];exact q)
def ae4 (ug:Mk X.K C f) (b:Binds X.K fd ps []) (m:X.mg x=some (.ref C)) (G:gH X.prog X.w X.K X.mg X.aS CX k f fd ps sp) (hr:fL (k+1) X.A) (hx:Passes CX X E) (hg:Gl X x:=by rfl) (o9:(x == ("__debug__" : Str))=false:=by decide):QE X (.Call (.Name x p) [] [] pos) (HU C sp E lO):=
 .i λaf s σ H Q I q=>V1 ug G hr hg m b .nil hx o9 af s σ H Q I q
def CD (i:Nat) (own:List (Str × Nat)) (hc:X.calm=true) (hN:X.N.Nodup) (hi:QI X tg iter wi) (ok:Dv X.N X.env.scope scope own)
  (hg :∀(s:Shared) (H:Hp) (C:Addr) (cl:List (Str × Addr)) (fp:List Addr),QG (X.p6 s H scope (compEnvC scope cl C X.env) fp) tg g) (ht :∀(s:Shared) (H:Hp) (C:Addr) (cl:List (Str × Addr)) (fp:List Addr),GX (X.p6 s H scope (compEnvC scope cl C X.env) fp) ifs tt)
  (he :∀(s:Shared) (H:Hp) (C:Addr) (cl:List (Str × Addr)) (fp:List Addr),QE (X.p6 s H scope (compEnvC scope cl C X.env) fp) vP te) (hy:X.N[i]?=some y:=by rfl) (Yh:X.env.scope.names.lookup y=some .local:=by rfl)
  (Na:swapsWith (.ListComp vP [⟨tg,iter,ifs,0⟩] scope pos) (some (.Name y py)) Wb.line X.env=pure true:=by rfl) (hs :∀x,foldedSetIterable iter X.env x=pure x:=by intro _;rfl) :
  QS X (.Assign [.Name y py] (.ListComp vP [⟨tg,iter,ifs,0⟩] scope pos) Wb) (vN (P0 wi g tt te (own.map (·.2))) (l5 i)):=
 .i (Wa hc hN hy Yh Na hi.o ok (λs H C cl fp=>(hg s H C cl fp).o) (λs H C cl fp=>(ht s H C cl fp).o) (λs H C cl fp=>(he s H C cl fp).o) hs)
def acU {x:Str} {g:TG} {tt:TT} {te:TE} {vs:List Nat} {σ : St} {H1:Hp} {D:Addr} {Qd:Hp->Prop} (Pv:Nat->Hp->Prop) (h0:Pv 0 (aX H1 D (.lst [])))
  (hs :∀i c H,x.cps[i]?=some c->Pv i H->g (.str ⟨#[c]⟩) (fg σ vs) H λσ2 H2=>fg σ2 vs=fg σ vs/\tt σ2 H2 λb H3=>
   if b=true then te σ2 H3 λy H4=>∃acc,H4 D=some (.lst acc)/\acc.length < sizeLine/\Pv (i+1) (aX H4 D (.lst (acc++[y]))) else Pv (i+1) H3) (hd :∀H,Pv x.cps.size H->Qd H) :
  ∃W:Nat->Nat->Hp->Prop,(∃m,W 0 m (aX H1 D (.lst [])))/\∀i m H,W i m H->
   ((TV x).stop i H/\Qd H)\/((TV x).go i H/\∃Nx:Hp->Prop,(∀H',Nx H'->∃m',m' < m/\W (i+1) m' H')/\∀y H',(TV x).ET i H y H'->g y (fg σ vs) H' λσ2 H2=>fg σ2 vs=fg σ vs/\tt σ2 H2 λb H3=>
    if b=true then te σ2 H3 λy H4=>∃acc,H4 D=some (.lst acc)/\acc.length < sizeLine/\Nx (aX H4 D (.lst (acc++[y]))) else Nx H3):=by
 refine⟨λi m H=>m=x.cps.size - i/\i<=x.cps.size/\Pv i H,⟨x.cps.size,by simp,bK _,h0⟩,?_⟩;rintro i m H ⟨rfl,hi,p⟩;by_cases kE:i < x.cps.size
 ·refine .inr ⟨kE,Pv (i+1),λH' p'=>⟨x.cps.size - (i+1),by lia,Z,kE,p'⟩,λv H' y=>?_⟩
  obtain⟨e,c,hc,rfl⟩:=y;subst e;exact hs i c _ hc p
 have e:i=x.cps.size:=by lia
 subst e;exact .inl ⟨aN _,hd H p⟩
end
end L2
namespace Sw
open PySem PySem.Spec PyProof.Rows L2 _root_.Sp
def top (i:Nat):Stmt:=PySem.Challenge.pw_spellareas_s01_answers.main.body.getD i (.Pass ⟨0,0,0,0⟩)
abbrev B6:Stmt:=inClass (top 7) 0
def Nl:aH ["self","act","amount","area","when"] ["self","act","amount","area","when"] (ax B6):=by nofun
abbrev vV:Stmt:=top 8
def qu:aH ["values","word","count","operands","turn"] ["values","word"] (ax vV):=by nofun
abbrev vW:Stmt:=top 9
def mI:aH ["area","begin","wanted"] ["area"] (ax vW):=by nofun
abbrev Fc:Stmt:=top 11
def qL:aH ["area","aim","worked_out","word","size","operands"] ["area","aim"] (ax Fc):=by nofun
abbrev Ad:Stmt:=top 12
def gi:aH ["word","operands","level","first","inside","second","cell"] ["word","operands","level"] (ax Ad):=by nofun
abbrev CG:Stmt:=top 13
def ly:aH ["word","size","aim","level","ground"] ["word","size","aim"] (ax CG):=by nofun
abbrev w9:Stmt:=top 14
def iJ:aH ["level","x","y","least","most","width","distances","cell","distance"] ["level","x","y","least","most"] (ax w9):=by nofun
abbrev Qc:Stmt:=top 15
def qw:aH ["cells","level","width","last","count","wide","k"] ["cells","level"] (ax Qc):=by nofun
abbrev Ea:Stmt:=top 16
def js:aH ["aim","times","level","burst","turn","reached","cell"] ["aim","times"] (ax Ea):=by nofun
abbrev Fd:Stmt:=top 17
def uA:aH ["aim","width","cell"] ["aim"] (ax Fd):=by nofun
abbrev Fe:Stmt:=top 18
def m7:aH ["aim","x","y","start_x","start_y","dx","dy","aside"] ["aim","x","y"] (ax Fe):=by nofun
abbrev Ff:Stmt:=top 19
def gp:aH ["aim","level","line","count","onward","cell","walls","first_wall"] ["aim"] (ax Ff):=by nofun
abbrev Fg:Stmt:=top 20
def yD:aH ["aim","x","y","start_x","start_y"] ["aim","x","y"] (ax Fg):=by nofun
abbrev Eb:Stmt:=top 21
def pj:aH ["word","aim","cells","ground","being","is_friend"] ["word","aim"] (ax Eb):=by nofun
abbrev Fh:Stmt:=top 23
def Ec:aH ["aim","steps","cost","step"] ["aim","steps","cost"] (ax Fh):=by nofun
abbrev Ln:Stmt:=top 24
def Jj:aH ["aim","step","cells"] ["aim","step"] (ax Ln):=by nofun
abbrev CH:Stmt:=top 25
def rH:aH ["aim","cells","step","level","touched","being"] ["aim","cells","step"] (ax CH):=by nofun
abbrev CI:Stmt:=top 26
def Bx:aH ["beings","change","being"] ["beings","change"] (ax CI):=by nofun
abbrev Ed:Stmt:=top 27
def sY:aH ["aim","beings","most","way","being","dx","dy"] ["aim","beings","most","way"] (ax Ed):=by nofun
abbrev Ug:Stmt:=top 28
def ZU:aH ["number"] ["number"] (ax Ug):=by nofun
abbrev Qe:Stmt:=top 29
def HV:aH ["level","being","dx","dy","most","moved"] ["level","being","dx","dy","most"] (ax Qe):=by nofun
abbrev Fi:Stmt:=top 30
def Ee:aH ["level","cells","kind","cell"] ["level","cells","kind"] (ax Fi):=by nofun
abbrev Qg:Stmt:=top 31
def Nm:aH ["aim","cells","level"] ["aim","cells"] (ax Qg):=by nofun
abbrev CJ:Stmt:=top 32
def rJ:aH ["level","being"] ["level"] (ax CJ):=by nofun
abbrev Ae:Stmt:=top 33
def oY:aH ["before","after","told","being","old"] ["before","after"] (ax Ae):=by nofun
abbrev Ef:Stmt:=top 34
def xw:aH ["before","after","being"] ["before","after"] (ax Ef):=by nofun
abbrev By:Stmt:=top 35
def uL:aH ["before","after","cell"] ["before","after"] (ax By):=by nofun
abbrev Af:Stmt:=inClass (top 38) 0
def Mc:aH ["self","number","x","y","life","most","mana","side"] ["self","number","x","y","life","most","mana","side"] (ax Af):=by nofun
abbrev Ag:Stmt:=inClass (top 39) 0
def Md:aH ["self","width","height","ground"] ["self","width","height","ground"] (ax Ag):=by nofun
abbrev Ah:Stmt:=inClass (top 39) 1
def Me:aH ["self","x","y"] ["self","x","y"] (ax Ah):=by nofun
abbrev yE:Stmt:=inClass (top 39) 2
def Kk:aH ["self","x","y"] ["self","x","y"] (ax yE):=by nofun
abbrev uM:Stmt:=inClass (top 39) 3
def yZ:aH ["self","cell","being"] ["self","cell"] (ax uM):=by nofun
abbrev oq:Stmt:=inClass (top 39) 4
def tM:aH ["self","number","being"] ["self","number"] (ax oq):=by nofun
abbrev vX:Stmt:=inClass (top 39) 5
def Ai:aH ["self","x","y","cell"] ["self","x","y"] (ax vX):=by nofun
abbrev DF:Stmt:=inClass (top 40) 0
def O8:aH ["self","level","caster","x","y"] ["self","level","caster","x","y"] (ax DF):=by nofun
abbrev Bz:Stmt:=top 41
def HW:aH ["being"] ["being"] (ax Bz):=by nofun
abbrev BA:Stmt:=top 42
def qx:aH ["level","copied","being"] ["level"] (ax BA):=by nofun
abbrev Fj:Stmt:=top 47
def yF:aH ["steps","width","height","step"] ["steps","width","height"] (ax Fj):=by nofun
abbrev G1:Stmt:=top 48
def vY:aH ["step","width","height","cost"] ["step","width","height"] (ax G1):=by nofun
abbrev Qh:Stmt:=top 49
def Wt:aH ["step"] ["step"] (ax Qh):=by nofun
abbrev Fl:Stmt:=top 50
def qM:aH ["area","width","height","bounds","word","size","operands"] ["area","width","height"] (ax Fl):=by nofun
abbrev Aj:Stmt:=top 51
def GG:aH ["word","operands","cells"] ["word","operands","cells"] (ax Aj):=by nofun
abbrev CK:Stmt:=top 52
def vZ:aH ["word","size","width","height","cells","reach"] ["word","size","width","height"] (ax CK):=by nofun
abbrev G2:Stmt:=top 57
def we:aH ["steps","told","first","second"] ["steps"] (ax G2):=by nofun
abbrev ym:Stmt:=top 58
def ED:aH ["step","other"] ["step","other"] (ax ym):=by nofun
abbrev Jk:Stmt:=top 59
def O9:aH ["step","other"] ["step","other"] (ax Jk):=by nofun
abbrev y0:Stmt:=top 60
def rY:aH ["step","word"] ["step"] (ax y0):=by nofun
abbrev y6:Stmt:=top 61
def rZ:aH ["step","word"] ["step"] (ax y6):=by nofun
abbrev Fm:Stmt:=top 62
def qN:aH ["step","words","part"] ["step"] (ax Fm):=by nofun
abbrev Fn:Stmt:=top 67
def yG:aH ["steps","step"] ["steps"] (ax Fn):=by nofun
abbrev G3:Stmt:=top 68
def Ak:aH ["step","form"] ["step"] (ax G3):=by nofun
abbrev Jl:Stmt:=top 69
def Pa:aH ["step"] ["step"] (ax Jl):=by nofun
abbrev G4:Stmt:=top 70
def r6:aH ["area","forms","word","size","operands"] ["area"] (ax G4):=by nofun
abbrev G5:Stmt:=top 71
def Nn:aH ["word","size","operands"] ["word","size","operands"] (ax G5):=by nofun
abbrev G6:Stmt:=top 72
def Al:aH ["word","operands","tightness","left","right"] ["word","operands","tightness"] (ax G6):=by nofun
abbrev G7:Stmt:=top 73
def Np:aH ["operand","asked"] ["operand","asked"] (ax G7):=by nofun
abbrev Am:Stmt:=inClass (top 87) 0
def Mf:aH ["self","kind","value","place","behind"] ["self","kind","value","place","behind"] (ax Am):=by nofun
abbrev G8:Stmt:=top 88
def pk:aH ["text","tokens","at","token"] ["text"] (ax G8):=by nofun
abbrev DG:Stmt:=top 89
def B7:aH ["text","at","behind"] ["text","at"] (ax DG):=by nofun
abbrev Lo:Stmt:=top 90
def DH:aH ["text","at","least","greatest","behind"] ["text","at","least","greatest"] (ax Lo):=by nofun
abbrev Lp:Stmt:=top 91
def DI:aH ["letters","byte"] ["letters"] (ax Lp):=by nofun
abbrev G9:Stmt:=top 92
def wj:aH ["digits","number","byte"] ["digits"] (ax G9):=by nofun
abbrev mJ:Stmt:=inClass (top 101) 0
def Mg:aH ["self","number","place"] ["self","number","place"] (ax mJ):=by nofun
abbrev yH:Stmt:=inClass (top 102) 0
def Kl:aH ["self","text"] ["self","text"] (ax yH):=by nofun
abbrev xy:Stmt:=inClass (top 102) 1
def Jm:aH ["self"] ["self"] (ax xy):=by nofun
abbrev yI:Stmt:=inClass (top 102) 2
def Km:aH ["self","name"] ["self","name"] (ax yI):=by nofun
abbrev wk:Stmt:=inClass (top 102) 3
def An:aH ["self","name","seen"] ["self","name"] (ax wk):=by nofun
abbrev tQ:Stmt:=inClass (top 102) 4
def yn:aH ["self","number"] ["self"] (ax tQ):=by nofun
abbrev r8:Stmt:=inClass (top 102) 5
def xa:aH ["self","names","token"] ["self","names"] (ax r8):=by nofun
abbrev qy:Stmt:=inClass (top 102) 6
def va:aH ["self","least","most","token"] ["self","least","most"] (ax qy):=by nofun
abbrev tR:Stmt:=inClass (top 102) 7
def Fo:aH ["self"] ["self"] (ax tR):=by nofun
abbrev Fp:Stmt:=top 103
def yJ:aH ["text","reader","steps"] ["text"] (ax Fp):=by nofun
abbrev Ao:Stmt:=top 104
def tS:aH ["text","reader","area"] ["text"] (ax Ao):=by nofun
abbrev Ha:Stmt:=top 105
def pq:aH ["reader","act","amount","area","when"] ["reader"] (ax Ha):=by nofun
abbrev yK:Stmt:=top 106
def Kn:aH ["reader","act"] ["reader","act"] (ax yK):=by nofun
abbrev Hb:Stmt:=top 107
def Fq:aH ["reader","levels","area"] ["reader","levels"] (ax Hb):=by nofun
abbrev He:Stmt:=top 108
def Fs:aH ["reader","levels","part"] ["reader","levels"] (ax He):=by nofun
abbrev Hg:Stmt:=top 109
def pv:aH ["reader","levels","opener","opens","area","word","unit"] ["reader","levels"] (ax Hg):=by nofun
abbrev Eg:Stmt:=top 110
def sZ:aH ["reader","word","size"] ["reader"] (ax Eg):=by nofun
abbrev BB:Stmt:=top 112
def uN:aH ["steps","step"] ["steps"] (ax BB):=by nofun
abbrev CL:Stmt:=top 113
def wm:aH ["step","when"] ["step"] (ax CL):=by nofun
abbrev CM:Stmt:=top 114
def nS:aH ["area","worked_out","word","size","operands"] ["area"] (ax CM):=by nofun
abbrev CN:Stmt:=top 115
def Jn:aH ["word","size","operands"] ["word","size","operands"] (ax CN):=by nofun
abbrev Ei:Stmt:=top 116
def Ko:aH ["area"] ["area"] (ax Ei):=by nofun
abbrev CO:Stmt:=top 117
def Jo:aH ["area"] ["area"] (ax CO):=by nofun
abbrev Ej:Stmt:=top 118
def Kq:aH ["left","right"] ["left","right"] (ax Ej):=by nofun
abbrev Ft:Stmt:=top 119
def Mh:aH ["left","right"] ["left","right"] (ax Ft):=by nofun
abbrev Nq:Stmt:=top 120
def Uh:aH ["area"] ["area"] (ax Nq):=by nofun
abbrev Qi:Stmt:=top 121
def Wu:aH ["area","word","operand"] ["area","word","operand"] (ax Qi):=by nofun
abbrev Ap:Stmt:=inClass (top 146) 0
def Mi:aH ["self"] ["self"] (ax Ap):=by nofun
abbrev BC:Stmt:=top 147
def jj:aH ["calls","table","told","at","place","numbers_end","numbers","row","answer"] ["calls"] (ax BC):=by nofun
abbrev Hh:Stmt:=top 148
def Nr:aH ["table","place","numbers","row"] ["table","place","numbers","row"] (ax Hh):=by nofun
abbrev vc:Stmt:=top 149
def B8:aH ["table","place","numbers"] ["table","place","numbers"] (ax vc):=by nofun
abbrev BD:Stmt:=top 150
def HX:aH ["table","place","numbers","text"] ["table","place","numbers","text"] (ax BD):=by nofun
abbrev Aq:Stmt:=top 151
def y8:aH ["level","place","text","steps"] ["level","place","text"] (ax Aq):=by nofun
abbrev Ek:Stmt:=top 152
def pw:aH ["place","numbers","row","ranges","k","number"] ["place","numbers","row"] (ax Ek):=by nofun
abbrev Hi:Stmt:=top 153
def Nt:aH ["number","bounds"] ["number","bounds"] (ax Hi):=by nofun
abbrev Nu:Stmt:=top 154
def Ui:aH ["numbers"] ["numbers"] (ax Nu):=by nofun
abbrev Jp:Stmt:=top 155
def Pb:aH ["text"] ["text"] (ax Jp):=by nofun
abbrev Lq:Stmt:=top 156
def R8:aH ["text"] ["text"] (ax Lq):=by nofun
abbrev Nv:Stmt:=top 157
def Lr:aH ["level","numbers","caster"] ["level","numbers"] (ax Nv):=by nofun
abbrev El:Stmt:=top 158
def Kr:aH ["table","numbers","ground"] ["table","numbers","ground"] (ax El):=by nofun
abbrev Hj:Stmt:=top 159
def r9:aH ["table","numbers","level","x","y","number"] ["table","numbers"] (ax Hj):=by nofun
abbrev Fu:Stmt:=top 160
def Em:aH ["text","fault"] ["text"] (ax Fu):=by nofun
abbrev Jq:Stmt:=top 161
def B9:aH ["steps","sign"] ["steps"] (ax Jq):=by nofun
abbrev Fv:Stmt:=top 162
def En:aH ["level","text","area"] ["level","text"] (ax Fv):=by nofun
abbrev Hk:Stmt:=top 163
def kR:aH ["table","numbers","text","is_kept","level","aim","steps","cost","changed","gone","answer"] ["table","numbers","text","is_kept"] (ax Hk):=by nofun
abbrev Hl:Stmt:=top 164
def px:aH ["level","numbers","text","aim","area","cells","told","cell"] ["level","numbers","text"] (ax Hl):=by nofun
abbrev Hm:Stmt:=top 165
def Ny:aH ["table"] ["table"] (ax Hm):=by nofun
abbrev Fw:Stmt:=top 166
def Eo:aH ["level","number","being"] ["level","number"] (ax Fw):=by nofun
abbrev BE:Stmt:=top 167
def HY:aH ["being"] ["being"] (ax BE):=by nofun
abbrev Fx:Stmt:=top 168
def uB:aH ["table","level","told","being"] ["table"] (ax Fx):=by nofun
def yo (v0 v1 v2 v3:V):List (Str × V):=[("act",v0),("amount",v1),("area",v2),("when",v3)]
def jS (v0 v1 v2 v3 v4 v5 v6:V):List (Str × V):=[("number",v0),("x",v1),("y",v2),("life",v3),("most",v4),("mana",v5),("side",v6)]
def gc (v0 v1 v2 v3 v4:V):List (Str × V):=[("width",v0),("height",v1),("ground",v2),("beings",v3),("next_number",v4)]
theorem As {v0 v1 v2 v3 v4 z:V}:ki ("beings" : Str) z (gc v0 v1 v2 v3 v4)=gc v0 v1 v2 z v4:=rfl
theorem vd {v0 v1 v2 v3 v4 z:V}:ki ("next_number" : Str) z (gc v0 v1 v2 v3 v4)=gc v0 v1 v2 v3 z:=rfl
theorem qO {v0 v1 v2 v3 v4:V}:(gc v0 v1 v2 v3 v4).lookup ("cell" : Str)=none:=rfl
theorem xA {v0 v1 v2 v3 v4:V}:(gc v0 v1 v2 v3 v4).lookup ("holds" : Str)=none:=rfl
theorem y9 {v0 v1 v2 v3 v4:V}:(gc v0 v1 v2 v3 v4).lookup ("being_in" : Str)=none:=rfl
theorem j7 {v0 v1 v2 v3 v4:V}:(gc v0 v1 v2 v3 v4).lookup ("being_numbered" : Str)=none:=rfl
theorem uO {v0 v1 v2 v3 v4:V}:(gc v0 v1 v2 v3 v4).lookup ("is_free" : Str)=none:=rfl
def DJ (v0 v1 v2 v3:V):List (Str × V):=[("level",v0),("caster",v1),("x",v2),("y",v3)]
def m8 (v0 v1 v2 v3:V):List (Str × V):=[("kind",v0),("value",v1),("place",v2),("behind",v3)]
def eg (v0 v1:V):List (Str × V):=[("tokens",v0),("at",v1)]
theorem yL {v0 v1 z:V}:ki ("at" : Str) z (eg v0 v1)=eg v0 z:=rfl
theorem iY {v0 v1:V}:(eg v0 v1).lookup ("token" : Str)=none:=rfl
theorem tf {v0 v1:V}:(eg v0 v1).lookup ("sees" : Str)=none:=rfl
theorem mK {v0 v1:V}:(eg v0 v1).lookup ("passes" : Str)=none:=rfl
theorem sj {v0 v1:V}:(eg v0 v1).lookup ("misplace" : Str)=none:=rfl
theorem i7 {v0 v1:V}:(eg v0 v1).lookup ("take_name" : Str)=none:=rfl
theorem ve {v0 v1:V}:(eg v0 v1).lookup ("take_number" : Str)=none:=rfl
theorem yp {v0 v1:V}:(eg v0 v1).lookup ("take_end" : Str)=none:=rfl
def iK (v0 v1:V):List (Str × V):=[("level",v0),("earlier",v1)]
theorem wo {v0 v1 z:V}:ki ("level" : Str) z (iK v0 v1)=iK z v1:=rfl
theorem tT {v0 v1 z:V}:ki ("earlier" : Str) z (iK v0 v1)=iK v0 z:=rfl
set_option genInjectivity false in
structure Yy where
 eS:cu ["values","word"]
 jF:cu ["area"]
 jg:cu ["area","aim"]
 kl:cu ["word","operands","level"]
 mr:cu ["word","size","aim"]
 fb:cu ["level","x","y","least","most"]
 vf:cu ["cells","level"]
 m9:cu ["aim","times"]
 kS:cu ["aim"]
 pz:cu ["aim","x","y"]
 pA:cu ["aim"]
 pB:cu ["aim","x","y"]
 nc:cu ["word","aim"]
 pC:cu ["aim","steps","cost"]
 vg:cu ["aim","step"]
 mw:cu ["aim","cells","step"]
 km:cu ["beings","change"]
 lQ:cu ["aim","beings","most","way"]
 Au:cu ["number"]
 zJ:cu ["level","being","dx","dy","most"]
 pD:cu ["level","cells","kind"]
 zK:cu ["aim","cells"]
 mx:cu ["level"]
 kn:cu ["before","after"]
 nh:cu ["before","after"]
 lz:cu ["before","after"]
 lA:cu ["being"]
 lB:cu ["level"]
 kT:cu ["steps","width","height"]
 qY:cu ["step","width","height"]
 zL:cu ["step"]
 kU:cu ["area","width","height"]
 ko:cu ["word","operands","cells"]
 my:cu ["word","size","width","height"]
 qZ:cu ["steps"]
 jt:cu ["step","other"]
 qz:cu ["step","other"]
 jT:cu ["step"]
 jU:cu ["step"]
 kW:cu ["step"]
 pE:cu ["steps"]
 ra:cu ["step"]
 tj:cu ["step"]
 ou:cu ["area"]
 rb:cu ["word","size","operands"]
 ow:cu ["word","operands","tightness"]
 kK:cu ["operand","asked"]
 rg:cu ["text"]
 qA:cu ["text","at"]
 sk:cu ["text","at","least","greatest"]
 vh:cu ["letters"]
 rh:cu ["digits"]
 kY:cu ["text"]
 kq:cu ["text"]
 ox:cu ["reader"]
 lR:cu ["reader","act"]
 iD:cu ["reader","levels"]
 oy:cu ["reader","levels"]
 jB:cu ["reader","levels"]
 lS:cu ["reader"]
 lC:cu ["steps"]
 mz:cu ["step"]
 ku:cu ["area"]
 mB:cu ["word","size","operands"]
 ni:cu ["area"]
 mC:cu ["area"]
 nr:cu ["left","right"]
 pF:cu ["left","right"]
 lT:cu ["area"]
 vj:cu ["area","word","operand"]
 ju:cu ["calls"]
 rj:cu ["table","place","numbers","row"]
 ik:cu ["table","place","numbers"]
 lD:cu ["table","place","numbers","text"]
 kx:cu ["level","place","text"]
 nu:cu ["place","numbers","row"]
 oz:cu ["number","bounds"]
 iy:cu ["numbers"]
 nT:cu ["text"]
 qi:cu ["text"]
 sm:cu ["level","numbers"]
 nv:cu ["table","numbers","ground"]
 rk:cu ["table","numbers"]
 pG:cu ["text"]
 qB:cu ["steps"]
 pH:cu ["level","text"]
 oB:cu ["table","numbers","text","is_kept"]
 rl:cu ["level","numbers","text"]
 rm:cu ["table"]
 pI:cu ["level","number"]
 iZ:cu ["being"]
 pJ:cu ["table"]
 bI:GZ ["self","act","amount","area","when"]
 aR:GZ ["self","number","x","y","life","most","mana","side"]
 aM:GZ ["self","width","height","ground"]
 eG:cu ["self","x","y"]
 fQ:cu ["self","x","y"]
 fF:cu ["self","cell"]
 ck:cu ["self","number"]
 eU:cu ["self","x","y"]
 bZ:GZ ["self","level","caster","x","y"]
 bP:GZ ["self","kind","value","place","behind"]
 bg:GZ ["self","text"]
 cJ:cu ["self"]
 fC:cu ["self","name"]
 dc:cu ["self","name"]
 dU:cu ["self"]
 cA:cu ["self","names"]
 dN:cu ["self","least","most"]
 fh:cu ["self"]
 b9:GZ ["self"]
 xC:Addr
 xf:Addr
 Jr:FuncData
 fR:Addr
 Fy:Addr
 jY:Addr
 rK:Addr
 zy:Addr
 qP:Addr
 nU:Addr
 vk:Addr
 Av:Addr
 Gq:Addr
 DK:Addr
 iL:Addr
class Yz (P:Program) (w:World) (K:ak) (mg:Str->Option Value) (T:Yy):Prop where
 eS:cU K mg "take_operands" vV T.eS
 jF:cU K mg "last_operands" vW T.jF
 jg:cU K mg "area_cells" Fc T.jg
 kl:cU K mg "operator_cells" Ad T.kl
 mr:cU K mg "simple_cells" CG T.mr
 fb:cU K mg "cells_at_distance" w9 T.fb
 vf:cU K mg "grown" Qc T.vf
 m9:cU K mg "burst_cells" Ea T.m9
 kS:cU K mg "line_cells" Fd T.kS
 pz:cU K mg "is_on_line" Fe T.pz
 pA:cU K mg "bolt_cells" Ff T.pA
 pB:cU K mg "how_onward" Fg T.pB
 nc:cU K mg "being_cells" Eb T.nc
 pC:cU K mg "cast_spell" Fh T.pC
 vg:cU K mg "do_step" Ln T.vg
 mw:cU K mg "touch_beings" CH T.mw
 km:cU K mg "change_lives" CI T.km
 lQ:cU K mg "move_beings" Ed T.lQ
 Au:cU K mg "sign" Ug T.Au
 zJ:cU K mg "slide" Qe T.zJ
 pD:cU K mg "set_ground" Fi T.pD
 zK:cU K mg "blink" Qg T.zK
 mx:cU K mg "settle_lives" CJ T.mx
 kn:cU K mg "changed_beings" Ae T.kn
 nh:cU K mg "gone_beings" Ef T.nh
 lz:cU K mg "changed_cells" By T.lz
 lA:cU K mg "copy_of_being" Bz T.lA
 lB:cU K mg "copy_of_level" BA T.lB
 kT:cU K mg "spell_cost" Fj T.kT
 qY:cU K mg "step_cost" G1 T.qY
 zL:cU K mg "price" Qh T.zL
 kU:cU K mg "area_bound" Fl T.kU
 ko:cU K mg "operator_bound" Aj T.ko
 my:cU K mg "simple_bound" CK T.my
 qZ:cU K mg "exchanges" G2 T.qZ
 jt:cU K mg "may_be_exchanged" ym T.jt
 qz:cU K mg "disturbs" Jk T.qz
 jT:cU K mg "looks_at_places" y0 T.jT
 jU:cU K mg "looks_at_ground" y6 T.jU
 kW:cU K mg "area_words" Fm T.kW
 pE:cU K mg "spell_form" Fn T.pE
 ra:cU K mg "step_form" G3 T.ra
 tj:cU K mg "act_form" Jl T.tj
 ou:cU K mg "area_form" G4 T.ou
 rb:cU K mg "part_form" G5 T.rb
 ow:cU K mg "join_form" G6 T.ow
 kK:cU K mg "bracketed" G7 T.kK
 rg:cU K mg "tokens_of" G8 T.rg
 qA:cU K mg "token_at" DG T.qA
 sk:cU K mg "run_end" Lo T.sk
 vh:cU K mg "word_of" Lp T.vh
 rh:cU K mg "number_of" G9 T.rh
 kY:cU K mg "read_spell" Fp T.kY
 kq:cU K mg "read_lone_area" Ao T.kq
 ox:cU K mg "read_step" Ha T.ox
 lR:cU K mg "read_amount" yK T.lR
 iD:cU K mg "read_area" Hb T.iD
 oy:cU K mg "read_part" He T.oy
 jB:cU K mg "read_unit" Hg T.jB
 lS:cU K mg "read_simple" Eg T.lS
 lC:cU K mg "simpler_spell" BB T.lC
 mz:cU K mg "simpler_step" CL T.mz
 ku:cU K mg "simpler_area" CM T.ku
 mB:cU K mg "simpler_part" CN T.mB
 ni:cU K mg "simpler_not" Ei T.ni
 mC:cU K mg "simpler_grow" CO T.mC
 nr:cU K mg "simpler_and" Ej T.nr
 pF:cU K mg "simpler_or" Ft T.pF
 lT:cU K mg "is_all" Nq T.lT
 vj:cU K mg "joins" Qi T.vj
 ju:cU K mg "answers" BC T.ju
 rj:cU K mg "answer_to" Hh T.rj
 ik:cU K mg "answer_without_text" vc T.ik
 lD:cU K mg "answer_to_aim" BD T.lD
 kx:cU K mg "answer_to_text" Aq T.kx
 nu:cU K mg "is_in_range" Ek T.nu
 oz:cU K mg "is_within" Hi T.oz
 iy:cU K mg "as_row" Nu T.iy
 nT:cU K mg "spell_of" Jp T.nT
 qi:cU K mg "area_of" Lq T.qi
 sm:cU K mg "aim_of" Nv T.sm
 nv:cU K mg "start_level" El T.nv
 rk:cU K mg "put_being" Hj T.rk
 pG:cU K mg "check_text" Fu T.pG
 qB:cU K mg "form_row" Jq T.qB
 pH:cU K mg "tell_bound" Fv T.pH
 oB:cU K mg "cast_text" Hk T.oB
 rl:cU K mg "tell_area" Hl T.rl
 rm:cU K mg "undo_cast" Hm T.rm
 pI:cU K mg "tell_being" Fw T.pI
 iZ:cU K mg "being_numbers" BE T.iZ
 pJ:cU K mg "tell_level" Fx T.pJ
 bI:Ll K mg "Step" "Step.__init__" B6 T.bI
 dO:eC K T.bI.C "act"
 el:eC K T.bI.C "amount"
 me:eC K T.bI.C "area"
 iE:eC K T.bI.C "when"
 aR:Ll K mg "Being" "Being.__init__" Af T.aR
 gW:eC K T.aR.C "number"
 fq:eC K T.aR.C "x"
 fS:eC K T.aR.C "y"
 gP:eC K T.aR.C "life"
 pK:eC K T.aR.C "most"
 mL:eC K T.aR.C "mana"
 mM:eC K T.aR.C "side"
 aM:Ll K mg "Level" "Level.__init__" Ag T.aM
 dW:eC K T.aM.C "width"
 iM:eC K T.aM.C "height"
 dD:eC K T.aM.C "ground"
 dE:eC K T.aM.C "beings"
 gf:eC K T.aM.C "next_number"
 eG:Ac K T.aM.C "cell" "Level.cell" Ah T.eG
 fQ:Ac K T.aM.C "holds" "Level.holds" yE T.fQ
 fF:Ac K T.aM.C "being_in" "Level.being_in" uM T.fF
 ck:Ac K T.aM.C "being_numbered" "Level.being_numbered" oq T.ck
 eU:Ac K T.aM.C "is_free" "Level.is_free" vX T.eU
 bZ:Ll K mg "Aim" "Aim.__init__" DF T.bZ
 ft:eC K T.bZ.C "level"
 eJ:eC K T.bZ.C "caster"
 ny:eC K T.bZ.C "x"
 nz:eC K T.bZ.C "y"
 bP:Ll K mg "Token" "Token.__init__" Am T.bP
 jG:eC K T.bP.C "kind"
 jk:eC K T.bP.C "value"
 nA:eC K T.bP.C "place"
 tm:eC K T.bP.C "behind"
 bg:Ll K mg "Reader" "Reader.__init__" yH T.bg
 rL:eC K T.bg.C "tokens"
 oC:eC K T.bg.C "at"
 cJ:Ac K T.bg.C "token" "Reader.token" xy T.cJ
 fC:Ac K T.bg.C "sees" "Reader.sees" yI T.fC
 dc:Ac K T.bg.C "passes" "Reader.passes" wk T.dc
 dU:Ac K T.bg.C "misplace" "Reader.misplace" tQ T.dU
 cA:Ac K T.bg.C "take_name" "Reader.take_name" r8 T.cA
 dN:Ac K T.bg.C "take_number" "Reader.take_number" qy T.dN
 fh:Ac K T.bg.C "take_end" "Reader.take_end" tR T.fh
 b9:Ll K mg "Table" "Table.__init__" Ap T.b9
 dM:eC K T.b9.C "level"
 gE:eC K T.b9.C "earlier"
 x_F:vQ K "__init__" "Fault.__init__" mJ T.xf T.Jr
 CP:Binds K T.Jr ["self","number","place"] []
 nB:uK K T.xC T.xf
 vm:mg "Fault" = some (.ref T.xC)
 Js:mg "abs" = none
 ae5:mg "all" = none
 R9:mg "any" = none
 iu:mg "len" = none
 acW:mg "list" = none
 Sa:mg "max" = none
 uC:mg "min" = none
 ae6:mg "ord" = none
 i8:mg "range" = none
 YA:mg "str" = none
 ae7:mg "sum" = none
 fR:G0 K mg "GROUNDS" [(.str "wall"),(.str "floor"),(.str "water"),(.str "ice"),(.str "fire")] T.fR
 Fz :∃t,mg "WALL" = some (.int 0 t)
 Fy:G0 K mg "ACTS" [(.str "hurt"),(.str "heal"),(.str "push"),(.str "pull"),(.str "set"),(.str "blink")] T.Fy
 jY:G0 K mg "SIZED_AREAS" [(.str "ball"),(.str "ring"),(.str "burst")] T.jY
 rK:G0 K mg "UNSIZED_AREAS" [(.str "self"),(.str "target"),(.str "line"),(.str "bolt"),(.str "all"),(.str "beings"),(.str "foes"),(.str "friends")] T.rK
 zy:Lm P w K mg "OPERANDS" [(.inr "not",(.int 1)),(.inr "grow",(.int 1)),(.inr "&",(.int 2)),(.inr "|",(.int 2))] T.zy
 Ep :∃t,mg "MOST_BEINGS" = some (.int 8 t)
 Nz :∃t,mg "BLINK_COST" = some (.int 5 t)
 Pc :∃t,mg "WHEN_COST" = some (.int 1 t)
 Pd :∃t,mg "SET_PRICE" = some (.int 3 t)
 qP:G0 K mg "PLACE_WORDS" [(.str "self"),(.str "line"),(.str "bolt"),(.str "beings"),(.str "foes"),(.str "friends")] T.qP
 nU:G0 K mg "GROUND_SHAPES" [(.str "bolt"),(.str "burst")] T.nU
 vk:G0 K mg "MOVES" [(.str "push"),(.str "pull"),(.str "blink")] T.vk
 Ks :∃t,mg "JOINED_BY_OR" = some (.int 1 t)
 Jt :∃t,mg "JOINED_BY_AND" = some (.int 2 t)
 Ju :∃t,mg "UNIT" = some (.int 3 t)
 Jv :∃t,mg "NAME" = some (.int 1 t)
 NA :∃t,mg "NUMBER" = some (.int 2 t)
 Kt :∃t,mg "WRONG" = some (.int 3 t)
 YB :∃t,mg "END" = some (.int 4 t)
 Av:G0 K mg "BLANKS" [(.int 9),(.int 10),(.int 13),(.int 32)] T.Av
 Gq:Lm P w K mg "SIGNS" [(.inl 38,(.str "&")),(.inl 40,(.str "(")),(.inl 41,(.str ")")),(.inl 59,(.str ";")),(.inl 124,(.str "|"))] T.Gq
 Uj :∃t,mg "LETTERS" = some (.str "abcdefghijklmnopqrstuvwxyz" t)
 CQ :∃t,mg "FIRST_LETTER" = some (.int 97 t)
 Mj :∃t,mg "LAST_LETTER" = some (.int 122 t)
 Er :∃t,mg "FIRST_DIGIT" = some (.int 48 t)
 NB :∃t,mg "LAST_DIGIT" = some (.int 57 t)
 Ml :∃t,mg "MOST_DIGITS" = some (.int 3 t)
 Mm :∃t,mg "WRONG_TOKEN" = some (.int 1 t)
 Pe :∃t,mg "MISPLACED" = some (.int 2 t)
 Ca :∃t,mg "OUT_OF_RANGE_reading" = some (.int 3 t)
 Sb :∃t,mg "TOO_DEEP" = some (.int 6 t)
 Mn :∃t,mg "MOST_LEVELS" = some (.int 12 t)
 Pf :∃t,mg "MOST_SIZE" = some (.int 9 t)
 DK:Lm P w K mg "ACT_MOST" [(.inr "hurt",(.int 99)),(.inr "heal",(.int 99)),(.inr "push",(.int 5)),(.inr "pull",(.int 5))] T.DK
 FA :∃t,mg "OPEN_LEVEL" = some (.int 0 t)
 Hn :∃t,mg "PUT_BEING" = some (.int 1 t)
 ZV :∃t,mg "CHECK" = some (.int 2 t)
 ZW :∃t,mg "PRINT" = some (.int 3 t)
 acX :∃t,mg "COST" = some (.int 4 t)
 acY :∃t,mg "CAST" = some (.int 5 t)
 ae8 :∃t,mg "TRY" = some (.int 6 t)
 ZX :∃t,mg "BOUND" = some (.int 8 t)
 ZY :∃t,mg "APART" = some (.int 9 t)
 acZ :∃t,mg "UNDO" = some (.int 11 t)
 ae9 :∃t,mg "WHO" = some (.int 12 t)
 Wv :∃t,mg "GROUND" = some (.int 13 t)
 DL :∃t,mg "OUT_OF_RANGE_level" = some (.int (-1) t)
 Sd :∃t,mg "NO_LEVEL" = some (.int (-2) t)
 xZ :∃t,mg "NOT_THERE" = some (.int (-3) t)
 Se :∃t,mg "NOT_FREE" = some (.int (-4) t)
 DM :∃t,mg "FAULTY" = some (.int (-4) t)
 GH :∃t,mg "TOO_MANY_BEINGS" = some (.int (-5) t)
 GI :∃t,mg "TOO_LITTLE_MANA" = some (.int (-6) t)
 GJ :∃t,mg "NOTHING_TO_UNDO" = some (.int (-8) t)
 NC :∃t,mg "MOST_BYTES" = some (.int 300 t)
 Mo :∃t,mg "MOST_UNDONE" = some (.int 20 t)
 iL:DwF K mg "CALLS" (.tuple [(.tuple [(.tuple [(.tuple [(.int 2),(.int 12)]),(.tuple [(.int 2),(.int 12)])]),(.tuple [(.int 0),(.int 4)])]),(.tuple [(.tuple [(.tuple [(.int 0),(.int 11)]),(.tuple [(.int 0),(.int 11)]),(.tuple [(.int 1),(.int 1000)]),(.tuple [(.int 1),(.int 1000)]),(.tuple [(.int 0),(.int 1000000)]),(.tuple [(.int 0),(.int 3)])]),.none]),(.tuple [(.tuple []),(.tuple [(.int 0),(.int 255)])]),(.tuple [(.tuple []),(.tuple [(.int 0),(.int 255)])]),(.tuple [(.tuple []),(.tuple [(.int 0),(.int 255)])]),(.tuple [(.tuple [(.tuple [(.int 1),(.int 1000)]),(.tuple [(.int 0),(.int 11)]),(.tuple [(.int 0),(.int 11)])]),(.tuple [(.int 0),(.int 255)])]),(.tuple [(.tuple [(.tuple [(.int 1),(.int 1000)]),(.tuple [(.int 0),(.int 11)]),(.tuple [(.int 0),(.int 11)])]),(.tuple [(.int 0),(.int 255)])]),(.tuple [(.tuple [(.tuple [(.int 1),(.int 1000)]),(.tuple [(.int 0),(.int 11)]),(.tuple [(.int 0),(.int 11)])]),(.tuple [(.int 0),(.int 255)])]),(.tuple [(.tuple []),(.tuple [(.int 0),(.int 255)])]),(.tuple [(.tuple []),(.tuple [(.int 0),(.int 255)])]),(.tuple [(.tuple []),(.tuple [(.int 0),(.int 255)])]),(.tuple [(.tuple []),.none]),(.tuple [(.tuple [(.tuple [(.int 1),(.int 1000)])]),.none]),(.tuple [(.tuple []),.none]),(.tuple [(.tuple []),.none])]) T.iL
open PySem.W (WData nsIn findIn isFn keepIn codeIn fnOf plainGet hasDictIn plainOver makesIn mg_of)
def Qj (x q:Str) (st:Stmt) (ps:List Str):Prop:=∀(kV doc pm:Value) (an:Option Addr) (bx ct:Value) (us:List Value),us.length=ps.length->bindArgs (fnOf x q (ph st) (kj st) (ax st) .none kV doc pm an bx ct) ⟨us,[]⟩=pure (ps.zip us)
def Aw {A:Type} {n:Nat} {us:List A} (h:us.length=n+1) :∃a t,us=a::t/\t.length=n:=by
 cases us with
 | nil=>cases h
 | cons a t=>exact⟨a,t,Z,OV.inj h⟩
theorem CS {A:Type} {us:List A} (h:us.length=0):us=[]:=fP.mp h
section
variable {P:Program} {w:World} {K:ak} {mg:Str->Option Value} {h:Heap}
def bu {x:Str} {st:Stmt} {ps:List Str} {f:Addr} {oc kV doc pm bx ct:Value} {od an:Option Addr} {tL:Array (Option Value)} (X:K.In h:=by assumption) (G:h.Ns mainGlobals mg:=by assumption) (hb:Qj x x st ps:=by intro _ _ _ _ _ _ us h;(repeat (replace h:=Sw.Aw h;obtain⟨_,us,rfl,h⟩:=h));obtain rfl:=Sw.CS h;rfl) (a:nsIn K mainGlobals x=some (some (.ref f)):=by k_is)
  (l:K.lookup f=some ⟨oc,od,.func (fnOf x x (ph st) (kj st) (ax st) .none kV doc pm an bx ct),tL⟩:=by k_is) (c:codeIn K bx x=true:=by k_is) (k:keepIn K (.ref f)=true:=by k_is):cU K mg x st (⟨f,fnOf x x (ph st) (kj st) (ax st) .none kV doc pm an bx ct⟩:cu ps):=
 ⟨yg l c k,(yg l c k).binds hb,mg_of X G a⟩
def ac0 {C:Addr} {x qual:Str} {st:Stmt} {ps:List Str} {f:Addr} {oc kV doc pm bx ct:Value} {od an:Option Addr} {tL:Array (Option Value)} (hb:Qj x qual st ps:=by intro _ _ _ _ _ _ us h;(repeat (replace h:=Sw.Aw h;obtain⟨_,us,rfl,h⟩:=h));obtain rfl:=Sw.CS h;rfl) (a:findIn K (.ref C) x=some (some (.ref f)):=by k_is) (i:isFn K (.ref f)=true:=by k_is)
  (l:K.lookup f=some ⟨oc,od,.func (fnOf x qual (ph st) (kj st) (ax st) .none kV doc pm an bx ct),tL⟩:=by k_is) (c:codeIn K bx qual=true:=by k_is) (k:keepIn K (.ref f)=true:=by k_is):yl K C x qual st ps:=
 ⟨f,_,yg l c k,(yg l c k).binds hb,⟨a,i,k⟩⟩
def ac1 {x qual:Str} {st:Stmt} {ps:List Str} {C f:Addr} {oc kV doc pm bx ct:Value} {od an:Option Addr} {tL:Array (Option Value)} (X:K.In h:=by assumption) (G:h.Ns mainGlobals mg:=by assumption) (hb:Qj "__init__" qual st ps:=by intro _ _ _ _ _ _ us h;(repeat (replace h:=Sw.Aw h;obtain⟨_,us,rfl,h⟩:=h));obtain rfl:=Sw.CS h;rfl) (a:nsIn K mainGlobals x=some (some (.ref C)))
  (a1:findIn K (.ref C) "__init__" = some (some (.ref f))) (i:isFn K (.ref f)=true) (l:K.lookup f=some ⟨oc,od,.func (fnOf "__init__" qual (ph st) (kj st) (ax st) .none kV doc pm an bx ct),tL⟩) (c:codeIn K bx qual=true) (k:keepIn K (.ref f)=true)
  (pg:plainGet K C Str.empty=true) (hd:hasDictIn K C=true) (po:plainOver K C=true) (sa:findIn K (.ref C) "__setattr__" = some (some (.builtin "object.__setattr__"))) (mk:makesIn K C=true) (kc:keepIn K (.ref C)=true):Qb K mg x qual st ps:=
 ⟨C,f,_,yg l c k,(yg l c k).binds hb,⟨mk,a1,i,kc⟩,⟨pg,hd,po,sa⟩,mg_of X G a⟩
def Ax {R:ak->Addr->Prop} {x qual:Str} {st:Stmt} {ps:List Str} {C f:Addr} {oc kV doc pm bx ct:Value} {od an:Option Addr} {tL:Array (Option Value)} (X:K.In h:=by assumption) (G:h.Ns mainGlobals mg:=by assumption) (hb:Qj "__init__" qual st ps:=by intro _ _ _ _ _ _ us h;(repeat (replace h:=Sw.Aw h;obtain⟨_,us,rfl,h⟩:=h));obtain rfl:=Sw.CS h;rfl) (a:nsIn K mainGlobals x=some (some (.ref C)):=by k_is)
  (a1:findIn K (.ref C) "__init__" = some (some (.ref f)):=by k_is) (i:isFn K (.ref f)=true:=by k_is) (l:K.lookup f=some ⟨oc,od,.func (fnOf "__init__" qual (ph st) (kj st) (ax st) .none kV doc pm an bx ct),tL⟩:=by k_is) (c:codeIn K bx qual=true:=by k_is) (k:keepIn K (.ref f)=true:=by k_is)
  (pg:plainGet K C Str.empty=true:=by k_is) (hd:hasDictIn K C=true:=by k_is) (po:plainOver K C=true:=by k_is) (sa:findIn K (.ref C) "__setattr__" = some (some (.builtin "object.__setattr__")):=by k_is) (mk:makesIn K C=true:=by k_is) (kc:keepIn K (.ref C)=true:=by k_is) (hR:R K C:=by(try dsimp only);(repeat' apply And.intro) <;> first | k_is | exact⟨Sw.ac0⟩) :∃c:Qb K mg x qual st ps,R K c.C:=
 ⟨ac1 X G hb a a1 i l c k pg hd po sa mk kc,hR⟩
def yq {x:Str} {xs:List V} {p:Addr} {bq:Array Value} {n:Nat} {sl:Array (Option Value)} (X:K.In h:=by assumption) (G:h.Ns mainGlobals mg:=by assumption) (a:nsIn K mainGlobals x=some (some (.ref p)):=by k_is) (l:K.lookup p=some ⟨.type "tuple",none,.seq bq n,sl⟩:=by k_is) (hz:bq.size<=sizeLine:=by exact ag rfl) (hv:Vals xs bq.toList):G0 K mg x xs p:=
 ⟨mg_of X G a,λ_=>.inr ⟨_,bq,n,l,Z,Z,hz,hv⟩,⟨_,l,Z,Z⟩⟩
def d5 {x:Str} {v:Int} {t:Tok} (X:K.In h:=by assumption) (G:h.Ns mainGlobals mg:=by assumption) (a:nsIn K mainGlobals x=some (some (.int v t)):=by k_is) :∃t,mg x=some (.int v t):=⟨t,mg_of X G a⟩
def afa {x v:Str} {t:Tok} (X:K.In h:=by assumption) (G:h.Ns mainGlobals mg:=by assumption) (a:nsIn K mainGlobals x=some (some (.str v t)):=by k_is) :∃t,mg x=some (.str v t):=⟨t,mg_of X G a⟩
def ac2 {x:Str} {p:Addr} {d:WData} (X:K.In h:=by assumption) (G:h.Ns mainGlobals mg:=by assumption) (a:nsIn K mainGlobals x=some (some (.ref p)):=by k_is) (q :∀H:Hp,Dw K H (.ref p) d):DwT K mg x d:=⟨p,mg_of X G a,q⟩
def cQ {H:Hp} {xs:List V} {ds:List WData} {p:Addr} {bq:Array Value} {n:Nat} {sl:Array (Option Value)} {d:Option Addr} (l:K.lookup p=some ⟨.type "tuple",d,.seq bq n,sl⟩) (hz:bq.size<=sizeLine:=by exact ag rfl) (hv:Vals xs bq.toList) (hd:oW K H xs ds):Dw K H (.ref p) (.tuple ds):=
 .tup (.inr ⟨_,bq,n,l,Z,Z,hz,hv⟩) hd
def ND {x:Str} {fV:List (Key × V)} {vs:List (Key × Value)} {p:Addr} {es:Array DictEntry} {ep:Nat} (X:K.In h:=by assumption) (G:h.Ns mainGlobals mg:=by assumption) (a:nsIn K mainGlobals x=some (some (.ref p)):=by k_is) (l:K.lookup p=some ⟨.type "dict",none,.dict es ep,#[]⟩:=by k_is) (nm:(p == sysModules)=false:=by rfl)
  (hk:KeysOf (lq P w) es) (hp:Pairs (lq P w) es.toList vs) (kv:KV fV vs) (nd:(vs.map (·.1)).Nodup:=by decide):Lm P w K mg x fV p:=
 ⟨mg_of X G a,nm,λ_ Y=>⟨vs,kv,⟨_,es,ep,Y _ _ l,⟨Z,Z,Z⟩,Z,hk,hp,nd⟩⟩⟩
def HZ {es:Array DictEntry} (ks:List Key) (hh:Paired (λk (e:DictEntry)=>(lq P w).is k e.key=true/\e.hash=(lq P w).hash k) ks es.toList):KeysOf (lq P w) es:=by
 intro e he;have oR:e∈es.toList:=wV.mpr he;generalize es.toList=l at hh oR;clear he
 induction hh with
 | nil=>cases oR
 | cons h1 _ ih=>
  rcases bS.mp oR with rfl | oR
  ·exact⟨_,h1⟩
  exact ih oR
def Ww {C N f:Addr} {nm q:Str} {bs:List Value} {sn:List Str} {sub:List Value} {ab:Bool} {col:Option Bool} {dd:Option Addr} {k0 k1 k2 k3 k5:Option Value} {c0:Value} {d0:Option Addr} {es:Array DictEntry} {ep:Nat} {sl:Array (Option Value)} {kV doc pm bx ct:Value} {od an:Option Addr} {tL:Array (Option Value)}
  (X:K.In h:=by assumption) (G:h.Ns mainGlobals mg:=by assumption) (hb:Qj "__init__" "Fault.__init__" mJ ["self","number","place"]:=by intro _ _ _ _ _ _ us h;(repeat (replace h:=Sw.Aw h;obtain⟨_,us,rfl,h⟩:=h));obtain rfl:=Sw.CS h;rfl) (aC:nsIn K mainGlobals "Fault" = some (some (.ref C)):=by k_is) (lk:K.lookup C=some (excClassObj nm q C N bs Yl true sn sub ab col dd k0 k1 k2 k3 k5 "Exception.__new__"):=by k_is) (lN:K.lookup N=some ⟨c0,d0,.dict es ep,sl⟩:=by k_is)
  (hs:(es.toList.all λe=>match e.key with | .str _ _=>true | _=>false)=true:=by rfl) (m1:nsFind es "__init__" = some (.ref f):=by rfl) (m2:nsFind es "__getattribute__" = none:=by rfl) (m3:nsFind es "__getattr__" = none:=by rfl) (m4:nsFind es "__setattr__" = none:=by rfl) (m5:nsFind es "number" = none:=by rfl) (m6:nsFind es "place" = none:=by rfl)
  (lI:K.lookup f=some ⟨.type "function",od,.func (fnOf "__init__" "Fault.__init__" (ph mJ) (kj mJ) (ax mJ) .none kV doc pm an bx ct),tL⟩:=by k_is) (c1:codeIn K bx "Fault.__init__" = true:=by k_is) (kf:keepIn K (.ref f)=true:=by k_is) (kp:keepIn K (.ref C)=true:=by k_is) :
  ∃(C f:Addr) (fd:FuncData),vQ K "__init__" "Fault.__init__" mJ f fd/\Binds K fd ["self","number","place"] []/\uK K C f/\mg "Fault" = some (.ref C):=
 ⟨C,f,_,yg lI c1 kf,(yg lI c1 kf).binds hb,⟨⟨nm,q,N,bs,sn,sub,ab,col,dd,k0,k1,k2,k3,k5,nsFind es,lk,acx lN hs,m1,m2,m3,m4,m5,m6⟩,⟨_,lI,Z⟩,kp⟩,mg_of X G aC⟩
end
def wq {K:ak} {h:Heap} {mg:Str->Option Value} {n:Str} (X:K.In h:=by assumption) (G:h.Ns mainGlobals mg:=by assumption) (e:nsIn K mainGlobals n=some none:=by k_is):mg n=none:=PySem.W.mg_none_of X G e
end Sw
structure PySem.W.Fast:Prop where
 (tw17017028360160442773 tw9476467138693793 tw8327970662860746926 tw14301964894794830386 tw17835631512570146476 tw7961959243605897347 tw13216988594246057322 tw17245851245497566701 tw16732312471158638807 tw15881844301582049912 tw14799086699218065835 tw5921887223072862672 tw2001864850397476908 tw5407385588477804998 tw10286522352071470532 tw17962950565279318756 tw14076554352866770454 tw424200977627414444 tw13685492928699234009 tw17542470689766210462 tw6624333144445754906 tw1309831893020288606 tw4919687895146641400 tw16106965811986883217 tw6626537819387339624 tw7844986304299809807 tw7086742155799673969 tw5336141867102520896 tw3980195778878357064 tw13199830013201014164 tw2345450075066451985 tw5775189957575858218 tw4949214280472229802 tw4163555113028892469 tw6625593270896095249 tw16493328971110881209 tw1269770133903891555 tw17717489082297661001 tw197326169327822755 tw17675017701035704535 tw4224454370876853143 tw4660806642763375647 tw10191241473311104421 tw2797469838935502708 tw3135639511943490801 tw17295821258265896570 tw6869296559232165563 tw18337543151127817701 tw7518856096878715566 tw13612906544583214153 tw6655443081993549974 tw12190619180419137675 tw3871084391827756554 tw9303494857876997760 tw8917707130077917027 tw1207142728973711650 tw11277406276416794370 tw8457610503874400393 tw3215506729073932071 tw1145380051613935479 tw1545441358781268788 tw3257630247414163395 tw5488005788654264537 tw7209797765978181681 tw13696459775604330745 tw5478769215071110742 tw12983181365445049840 tw12180189013132718252 tw18150308653074190626 tw15063114968341737058 tw7044428255489089044 tw12818846033242599392 tw5638053545829534733 tw15609108994903413388 tw15963684006876113114 tw6419266745372420578 tw11812806935644862251 tw8946374198192549768 tw12366686682204677810 tw17824768411293930172 tw1000400075988929803 tw5668660052692550150 tw8120576258403834642 tw12743906056051746255 tw10756463679988590437 tw3565122795270808879 tw2396104720793580060 tw1410383220717308958 tw475745275052057898 tw3656760756237840430 tw7601629070452158718 tw17652006263738584103 tw16083348570598806807 tw9193227308022203036 tw15969070740775134542 tw5518580180970147622 tw1060675956762956267 tw13479254684281270330 tw3235968499026689250 tw10867152331039210716 tw8687938847516441477 tw2799080565897032920 tw18083041563800711714 tw7761458335613488599 tw6982483129500998007 tw1468721072953704655 tw17667917825093607239 tw8016202230704984798 tw6490832756906354816 tw2997845830214029299 tw15513535451299959120 tw13538202600408248995 tw10791062289781397258 tw15786028629941916010 tw9440183214605968804 tw15716930289022273248 tw7059579917567436186 tw17463972414841887285 tw7907167210937214494 tw14566486210039368193 tw278988655239025578 tw4184962116970075682 tw6854371900642499515 tw9618090884615786806 tw15891130332197075262 tw3116675081503020675 tw11623210173460533857 tw16240334976775610606 tw13677436292747361709 tw14700189622111656723 tw1182357448121862572 tw6966166096297366414 tw4846579011029899990 tw17628404546811811205 tw16632431582577445152 tw10428079397827632434 tw3218211130401039890 tw5956971461695248476 tw3164796203083598838 tw10124636416103062885 tw9202523409809925908 tw10007713129718044956 tw7134026311839258121 tw13545673571394742060 tw777609649803152224 tw15147132522777824652 tw17332677878732784412 tw503491855942737749 tw13573905587548285367 tw16320689877155306385 tw15998871172887853084 tw2632433363213624652 tw7186274485511299149 tw12986919145877172444 tw17971471739104266944 tw8333728819518263938 tw13271301458312026359 tw7850928157791696847 tw17436503299822871597 tw9887865512250893853 tw12496347315249587228 tw8663184189416737076 tw3515749699428727910 tw21146472631796331 tw8597687110014897505 tw10185941889927500609 tw4723854414631969755 tw12266154468189831797 tw263825100083791062 tw14507147922484098990 tw3466755694966612166 tw3176975658464434837 tw14315663560781910356 tw14651385284783892072 tw17248384911029713181 tw6426620464980136002 tw14882335941795314713 tw2775865810731748861 tw2630771670028200906 tw2358277766778639208 tw16207782766395587070 tw5976891993518177430 tw3595491706945846458 tw2490885800014330291 tw14454398922986245382 tw12328198153023171400 tw1720971448758218572 tw5508625717489990087 tw7201479093376033393 tw2650228687817788404 tw2466046140042763737 tw4570773077697773874 tw8695509732256210515 tw4023171406131947783 tw18183589568436269250 tw7214962833431621666 tw8723950555885175874 tw11441595968118492704 tw1466904669809802991 tw11805863504405052127 tw235918679822637892 tw3522478218573008257 tw12470782449492390522 tw355028260150010704 tw14421603060399325901 tw8491951381827705954 tw5504138244194093617 tw15544512107831080784 tw415010715746957945 tw6209232836071700864 tw4949536418775560469 tw1876670135549858543 tw3458154244925670658 tw17173535276898084355 tw4422677609437431636 tw11392327655926267362 tw10618401364764193481 tw15480948966741865278 tw12251470905212765322 tw10146781946027962683 tw11394732758168786694 tw13760737047971346622 tw10536023248252577078 tw2310103550331011232 tw8459523809166998551 tw5494763134279372440 tw18282441174398839809 tw10873846204765220354 tw4732717834605996122 tw12628101478242421915 tw17752431112036470046 tw13461774875679664480 tw11341550007034897447 tw8543534542442052449 tw16909921228380711298 tw9701410227235859365 tw8828143073704072557 tw17882052472181811145 tw17524049623738272824 tw14534381485165338746 tw10633271611941972568 tw6073884977018814208 tw4577671047938373527 tw11252202339937455126 tw9322959499470450463 tw7435841400143925051 tw9638853928811683685 tw12034389049986433481 tw5883952158580538835 tw3598154098892184803 tw2431417416999647023 tw2418844064940791608 tw13777436926833025492 tw13984588964896296205 tw17652082896460894850 tw17193138073380143040 tw4154416631024237634 tw12231409945461206093 tw7321648723528353873 tw11844523012400954920 tw5927762064752404104 tw10936833995293658537 tw10591018222175060497 tw8932033407028215849 tw13733632734581580522 tw813444958447886903 tw17470656599749358491 tw5763024179786215448 tw8155055979391076946 tw12427148365663019090 tw4263923806737134715 tw6854997239889403851 tw479466043268089105 tw4142798284829763145 tw10954906371543764250 tw8852146065911047645 tw17105386520598000717 tw18276920512575678600 tw2929220258170853857 tw12779155779781663767 tw8415854949793983084 tw4206970983926672406 tw12810004397745982981 tw14937980377824094000 tw9004810967644701098 tw7724317713049280679 tw13965330715881961456 tw11482316694400623092 tw16132748131621756486 tw6906449686620611156 tw10741063240677846190 tw5073998433584382840 tw6038899799078258946 tw13528510914799769921 tw18140184024869207630 tw3846240064695170782 tw1416764456614238921 tw17447689333923632346 tw889135936596835250 tw3032441471238099720:True)
 (tw502094912725656708 tw18013505088006589723 tw13651968392071394895 tw4327184251183474506 tw5697238418349093999 tw7157818929168504624 tw16888135798315146289 tw6153015067219866249 tw4883518704255622863 tw11750099538488015259 tw7752590252170015917 tw15344273425080724003 tw16028026430967221721 tw17425019916742545286 tw7643170822040542684 tw4527895555521264193 tw1562741843432679550 tw17332169689502230289 tw8746453955617494420 tw10757826150119571221 tw7657486322812473284 tw6615211745451015397 tw17823762547411540837 tw1744642270574999814 tw7743883146327328898 tw6798715124110465055 tw13263910904276892055 tw9535023373499583948 tw4113163855421882660 tw8949074826243022350 tw5876841950021424117 tw15532798393544042114 tw12547669718251804468 tw3044708349627859632 tw7852126442809296355 tw15930037825625921162 tw647888714967492858 tw2943371692813557449 tw15056986021558891851:True)
namespace Sw
open PySem PySem.W PyProof.Rows L2 _root_.Sp
theorem hws:PySem.Challenge.rw_spellareas_s01_answers.wellSaid=true:=by unfold OpenSpec.wellSaid;k_qdec
lay_quick PySem.Program.tablesWhole
theorem htw:PySem.Challenge.rw_spellareas_s01_answers.prog.tablesWhole=true:=by k_qdec
theorem YC:type_of% @holds_os:=@holds_os
def vq:Program:={ PySem.Challenge.pw_spellareas_s01_answers with main:={ PySem.Challenge.pw_spellareas_s01_answers.main with body:=(PySem.Challenge.pw_spellareas_s01_answers.main.body.drop 147).take 1 } }
def vl:List Str:=PySem.Challenge.pw_spellareas_s01_answers.boundNames.filter (· != "answers")
local macro_rules
 | `(tactic| refine $f:ident $as*)=>do
  if f.getId != `PySem.W.holds_os then Lean.Macro.throwUnsupported
  `(tactic| refine Sw.YC (q:=Sw.vq) (loose:=Sw.vl) (Xt:=PySem.W.recOk []) (XP:=λ_ _=>True) $(as[4]!) $(as[5]!) $(as[6]!) $(as[7]!) $(as[8]!) $(as[9]!) $(as[10]!) (λ_ _=>trivial) (λ_ _ _ _ _=>trivial) (by rfl) (by rfl) (by rfl) (λs e=>PySem.W.recFacts_of e) $(as[17]!) Sw.hws (by decide) ⟨Z,Z,Z,Z,Z,Sw.htw⟩ $(as[21]!) ($(Lean.mkIdent `F) _ _ _ _ _ _ (by rfl) (by rfl) (λw h Y=>PySem.W.kIn_of Y) $(as[22]!)))
theorem hd (F :∀(q:Program) (loose:List Str) (XP:(Str->Option Value)->Heap->Prop) (YP:World->Heap->Prop) (d:DefRec) (K:Params->ak),d.params.defaults=[]->d.name = "answers"->(∀w h,YP w h->(K w.params).In h)->(∀(w:World) (mg:Str->Option Value) (h:Heap),(K w.params).In h->h.Ns mainGlobals mg->∃T:Yy,Yz PySem.Challenge.pw_spellareas_s01_answers w (K w.params) mg T)->WalkOS q loose XP YP PySem.Challenge.rw_spellareas_s01_answers d [] (λf vs=>PySem.call f vs)):PySem.Challenge.rw_spellareas_s01_answers.Holds:=by
 w_on;k_headS;(case hw=>exact⟨[.list [.int 13]],by decide,by decide⟩)
 intro w mg h KX G;obtain⟨bI,dO,el,me,iE⟩:=Sw.Ax (mg:=mg) (R:=λK C=>bA K (.ref C) "act" = some none/\bA K (.ref C) "amount" = some none/\bA K (.ref C) "area" = some none/\bA K (.ref C) "when" = some none) (x:="Step") (qual:="Step.__init__") (st:=Sw.B6) (ps:=["self","act","amount","area","when"]);obtain⟨aR,gW,fq,fS,gP,pK,mL,mM⟩:=Sw.Ax (mg:=mg) (R:=λK C=>bA K (.ref C) "number" = some none/\bA K (.ref C) "x" = some none/\bA K (.ref C) "y" = some none/\bA K (.ref C) "life" = some none/\bA K (.ref C) "most" = some none/\bA K (.ref C) "mana" = some none/\bA K (.ref C) "side" = some none) (x:="Being") (qual:="Being.__init__") (st:=Sw.Af) (ps:=["self","number","x","y","life","most","mana","side"]);obtain⟨aM,dW,iM,dD,dE,gf,⟨eG⟩,⟨fQ⟩,⟨fF⟩,⟨ck⟩,⟨eU⟩⟩:=Sw.Ax (mg:=mg) (R:=λK C=>bA K (.ref C) "width" = some none/\bA K (.ref C) "height" = some none/\bA K (.ref C) "ground" = some none/\bA K (.ref C) "beings" = some none/\bA K (.ref C) "next_number" = some none/\Nonempty (yl K C "cell" "Level.cell" Sw.Ah ["self","x","y"])/\Nonempty (yl K C "holds" "Level.holds" Sw.yE ["self","x","y"])/\Nonempty (yl K C "being_in" "Level.being_in" Sw.uM ["self","cell"])/\Nonempty (yl K C "being_numbered" "Level.being_numbered" Sw.oq ["self","number"])/\Nonempty (yl K C "is_free" "Level.is_free" Sw.vX ["self","x","y"])) (x:="Level") (qual:="Level.__init__") (st:=Sw.Ag) (ps:=["self","width","height","ground"]);obtain⟨bZ,ft,eJ,ny,nz⟩:=Sw.Ax (mg:=mg) (R:=λK C=>bA K (.ref C) "level" = some none/\bA K (.ref C) "caster" = some none/\bA K (.ref C) "x" = some none/\bA K (.ref C) "y" = some none) (x:="Aim") (qual:="Aim.__init__") (st:=Sw.DF) (ps:=["self","level","caster","x","y"]);obtain⟨bP,jG,jk,nA,tm⟩:=Sw.Ax (mg:=mg) (R:=λK C=>bA K (.ref C) "kind" = some none/\bA K (.ref C) "value" = some none/\bA K (.ref C) "place" = some none/\bA K (.ref C) "behind" = some none) (x:="Token") (qual:="Token.__init__") (st:=Sw.Am) (ps:=["self","kind","value","place","behind"]);obtain⟨bg,rL,oC,⟨cJ⟩,⟨fC⟩,⟨dc⟩,⟨dU⟩,⟨cA⟩,⟨dN⟩,⟨fh⟩⟩:=Sw.Ax (mg:=mg) (R:=λK C=>bA K (.ref C) "tokens" = some none/\bA K (.ref C) "at" = some none/\Nonempty (yl K C "token" "Reader.token" Sw.xy ["self"])/\Nonempty (yl K C "sees" "Reader.sees" Sw.yI ["self","name"])/\Nonempty (yl K C "passes" "Reader.passes" Sw.wk ["self","name"])/\Nonempty (yl K C "misplace" "Reader.misplace" Sw.tQ ["self"])/\Nonempty (yl K C "take_name" "Reader.take_name" Sw.r8 ["self","names"])/\Nonempty (yl K C "take_number" "Reader.take_number" Sw.qy ["self","least","most"])/\Nonempty (yl K C "take_end" "Reader.take_end" Sw.tR ["self"])) (x:="Reader") (qual:="Reader.__init__") (st:=Sw.yH) (ps:=["self","text"]);obtain⟨b9,dM,gE⟩:=Sw.Ax (mg:=mg) (R:=λK C=>bA K (.ref C) "level" = some none/\bA K (.ref C) "earlier" = some none) (x:="Table") (qual:="Table.__init__") (st:=Sw.Ap) (ps:=["self"]);obtain⟨xC,xf,Jr,x_F,CP,nB,vm⟩:=Sw.Ww (mg:=mg);have iL:=Sw.ac2 (mg:=mg) (x:="CALLS") (d:=(.tuple [(.tuple [(.tuple [(.tuple [(.int 2),(.int 12)]),(.tuple [(.int 2),(.int 12)])]),(.tuple [(.int 0),(.int 4)])]),(.tuple [(.tuple [(.tuple [(.int 0),(.int 11)]),(.tuple [(.int 0),(.int 11)]),(.tuple [(.int 1),(.int 1000)]),(.tuple [(.int 1),(.int 1000)]),(.tuple [(.int 0),(.int 1000000)]),(.tuple [(.int 0),(.int 3)])]),.none]),(.tuple [(.tuple []),(.tuple [(.int 0),(.int 255)])]),(.tuple [(.tuple []),(.tuple [(.int 0),(.int 255)])]),(.tuple [(.tuple []),(.tuple [(.int 0),(.int 255)])]),(.tuple [(.tuple [(.tuple [(.int 1),(.int 1000)]),(.tuple [(.int 0),(.int 11)]),(.tuple [(.int 0),(.int 11)])]),(.tuple [(.int 0),(.int 255)])]),(.tuple [(.tuple [(.tuple [(.int 1),(.int 1000)]),(.tuple [(.int 0),(.int 11)]),(.tuple [(.int 0),(.int 11)])]),(.tuple [(.int 0),(.int 255)])]),(.tuple [(.tuple [(.tuple [(.int 1),(.int 1000)]),(.tuple [(.int 0),(.int 11)]),(.tuple [(.int 0),(.int 11)])]),(.tuple [(.int 0),(.int 255)])]),(.tuple [(.tuple []),(.tuple [(.int 0),(.int 255)])]),(.tuple [(.tuple []),(.tuple [(.int 0),(.int 255)])]),(.tuple [(.tuple []),(.tuple [(.int 0),(.int 255)])]),(.tuple [(.tuple []),.none]),(.tuple [(.tuple [(.tuple [(.int 1),(.int 1000)])]),.none]),(.tuple [(.tuple []),.none]),(.tuple [(.tuple []),.none])])) (q:=λH=>by
  refine' (Sw.cQ ?t0 ?z0 ?v0 (.cons (Sw.cQ ?t1 ?z1 ?v1 (.cons (Sw.cQ ?t2 ?z2 ?v2 (.cons (Sw.cQ ?t3 ?z3 ?v3 (.cons (.int _) (.cons (.int _) .nil))) (.cons (Sw.cQ ?t4 ?z4 ?v4 (.cons (.int _) (.cons (.int _) .nil))) .nil))) (.cons (Sw.cQ ?t5 ?z5 ?v5 (.cons (.int _) (.cons (.int _) .nil))) .nil))) (.cons (Sw.cQ ?t6 ?z6 ?v6 (.cons (Sw.cQ ?t7 ?z7 ?v7 (.cons (Sw.cQ ?t8 ?z8 ?v8 (.cons (.int _) (.cons (.int _) .nil))) (.cons (Sw.cQ ?t9 ?z9 ?v9 (.cons (.int _) (.cons (.int _) .nil))) (.cons (Sw.cQ ?t10 ?z10 ?v10 (.cons (.int _) (.cons (.int _) .nil))) (.cons (Sw.cQ ?t11 ?z11 ?v11 (.cons (.int _) (.cons (.int _) .nil))) (.cons (Sw.cQ ?t12 ?z12 ?v12 (.cons (.int _) (.cons (.int _) .nil))) (.cons (Sw.cQ ?t13 ?z13 ?v13 (.cons (.int _) (.cons (.int _) .nil))) .nil))))))) (.cons .cj .nil))) (.cons (Sw.cQ ?t14 ?z14 ?v14 (.cons (Sw.cQ ?Uk ?z15 ?v15 .nil) (.cons (Sw.cQ ?t16 ?z16 ?v16 (.cons (.int _) (.cons (.int _) .nil))) .nil))) (.cons (Sw.cQ ?t17 ?z17 ?v17 (.cons (Sw.cQ ?t18 ?z18 ?v18 .nil) (.cons (Sw.cQ ?t19 ?z19 ?v19 (.cons (.int _) (.cons (.int _) .nil))) .nil))) (.cons (Sw.cQ ?t20 ?z20 ?v20 (.cons (Sw.cQ ?t21 ?z21 ?v21 .nil) (.cons (Sw.cQ ?t22 ?z22 ?v22 (.cons (.int _) (.cons (.int _) .nil))) .nil))) (.cons (Sw.cQ ?t23 ?z23 ?v23 (.cons (Sw.cQ ?t24 ?z24 ?v24 (.cons (Sw.cQ ?t25 ?z25 ?v25 (.cons (.int _) (.cons (.int _) .nil))) (.cons (Sw.cQ ?t26 ?z26 ?v26 (.cons (.int _) (.cons (.int _) .nil))) (.cons (Sw.cQ ?t27 ?z27 ?v27 (.cons (.int _) (.cons (.int _) .nil))) .nil)))) (.cons (Sw.cQ ?t28 ?z28 ?v28 (.cons (.int _) (.cons (.int _) .nil))) .nil))) (.cons (Sw.cQ ?t29 ?z29 ?v29 (.cons (Sw.cQ ?t30 ?z30 ?v30 (.cons (Sw.cQ ?t31 ?z31 ?v31 (.cons (.int _) (.cons (.int _) .nil))) (.cons (Sw.cQ ?t32 ?z32 ?v32 (.cons (.int _) (.cons (.int _) .nil))) (.cons (Sw.cQ ?t33 ?z33 ?v33 (.cons (.int _) (.cons (.int _) .nil))) .nil)))) (.cons (Sw.cQ ?t34 ?z34 ?v34 (.cons (.int _) (.cons (.int _) .nil))) .nil))) (.cons (Sw.cQ ?t35 ?z35 ?v35 (.cons (Sw.cQ ?t36 ?z36 ?v36 (.cons (Sw.cQ ?t37 ?z37 ?v37 (.cons (.int _) (.cons (.int _) .nil))) (.cons (Sw.cQ ?t38 ?z38 ?v38 (.cons (.int _) (.cons (.int _) .nil))) (.cons (Sw.cQ ?t39 ?z39 ?v39 (.cons (.int _) (.cons (.int _) .nil))) .nil)))) (.cons (Sw.cQ ?t40 ?z40 ?v40 (.cons (.int _) (.cons (.int _) .nil))) .nil))) (.cons (Sw.cQ ?t41 ?z41 ?v41 (.cons (Sw.cQ ?t42 ?z42 ?v42 .nil) (.cons (Sw.cQ ?t43 ?z43 ?v43 (.cons (.int _) (.cons (.int _) .nil))) .nil))) (.cons (Sw.cQ ?t44 ?z44 ?v44 (.cons (Sw.cQ ?t45 ?z45 ?v45 .nil) (.cons (Sw.cQ ?t46 ?z46 ?v46 (.cons (.int _) (.cons (.int _) .nil))) .nil))) (.cons (Sw.cQ ?t47 ?z47 ?v47 (.cons (Sw.cQ ?t48 ?z48 ?v48 .nil) (.cons (Sw.cQ ?t49 ?z49 ?v49 (.cons (.int _) (.cons (.int _) .nil))) .nil))) (.cons (Sw.cQ ?t50 ?z50 ?v50 (.cons (Sw.cQ ?t51 ?z51 ?v51 .nil) (.cons .cj .nil))) (.cons (Sw.cQ ?t52 ?z52 ?v52 (.cons (Sw.cQ ?t53 ?z53 ?v53 (.cons (Sw.cQ ?t54 ?z54 ?v54 (.cons (.int _) (.cons (.int _) .nil))) .nil)) (.cons .cj .nil))) (.cons (Sw.cQ ?t55 ?z55 ?v55 (.cons (Sw.cQ ?t56 ?z56 ?v56 .nil) (.cons .cj .nil))) (.cons (Sw.cQ ?t57 ?z57 ?v57 (.cons (Sw.cQ ?t58 ?z58 ?v58 .nil) (.cons .cj .nil))) .nil))))))))))))))))
  (case t0=>k_is)
  (case z0=>exact ag rfl)
  (case v0=>exact(.cons rfl (.cons rfl (.cons rfl (.cons rfl (.cons rfl (.cons rfl (.cons rfl (.cons rfl (.cons rfl (.cons rfl (.cons rfl (.cons rfl (.cons rfl (.cons rfl (.cons rfl .nil))))))))))))))))
  (case t1=>k_is)
  (case z1=>exact ag rfl)
  (case v1=>exact(.cons rfl (.cons rfl .nil)))
  (case t2=>k_is)
  (case z2=>exact ag rfl)
  (case v2=>exact(.cons rfl (.cons rfl .nil)))
  (case t3=>k_is)
  (case z3=>exact ag rfl)
  (case v3=>exact(.cons ⟨_,Z⟩ (.cons ⟨_,Z⟩ .nil)))
  (case t4=>k_is)
  (case z4=>exact ag rfl)
  (case v4=>exact(.cons ⟨_,Z⟩ (.cons ⟨_,Z⟩ .nil)))
  (case t5=>k_is)
  (case z5=>exact ag rfl)
  (case v5=>exact(.cons ⟨_,Z⟩ (.cons ⟨_,Z⟩ .nil)))
  (case t6=>k_is)
  (case z6=>exact ag rfl)
  (case v6=>exact(.cons rfl (.cons rfl .nil)))
  (case t7=>k_is)
  (case z7=>exact ag rfl)
  (case v7=>exact(.cons rfl (.cons rfl (.cons rfl (.cons rfl (.cons rfl (.cons rfl .nil)))))))
  (case t8=>k_is)
  (case z8=>exact ag rfl)
  (case v8=>exact(.cons ⟨_,Z⟩ (.cons ⟨_,Z⟩ .nil)))
  (case t9=>k_is)
  (case z9=>exact ag rfl)
  (case v9=>exact(.cons ⟨_,Z⟩ (.cons ⟨_,Z⟩ .nil)))
  (case t10=>k_is)
  (case z10=>exact ag rfl)
  (case v10=>exact(.cons ⟨_,Z⟩ (.cons ⟨_,Z⟩ .nil)))
  (case t11=>k_is)
  (case z11=>exact ag rfl)
  (case v11=>exact(.cons ⟨_,Z⟩ (.cons ⟨_,Z⟩ .nil)))
  (case t12=>k_is)
  (case z12=>exact ag rfl)
  (case v12=>exact(.cons ⟨_,Z⟩ (.cons ⟨_,Z⟩ .nil)))
  (case t13=>k_is)
  (case z13=>exact ag rfl)
  (case v13=>exact(.cons ⟨_,Z⟩ (.cons ⟨_,Z⟩ .nil)))
  (case t14=>k_is)
  (case z14=>exact ag rfl)
  (case v14=>exact(.cons rfl (.cons rfl .nil)))
  (case Uk=>k_is)
  (case z15=>exact ag rfl)
  (case v15=>exact .nil)
  (case t16=>k_is)
  (case z16=>exact ag rfl)
  (case v16=>exact(.cons ⟨_,Z⟩ (.cons ⟨_,Z⟩ .nil)))
  (case t17=>k_is)
  (case z17=>exact ag rfl)
  (case v17=>exact(.cons rfl (.cons rfl .nil)))
  (case t18=>k_is)
  (case z18=>exact ag rfl)
  (case v18=>exact .nil)
  (case t19=>k_is)
  (case z19=>exact ag rfl)
  (case v19=>exact(.cons ⟨_,Z⟩ (.cons ⟨_,Z⟩ .nil)))
  (case t20=>k_is)
  (case z20=>exact ag rfl)
  (case v20=>exact(.cons rfl (.cons rfl .nil)))
  (case t21=>k_is)
  (case z21=>exact ag rfl)
  (case v21=>exact .nil)
  (case t22=>k_is)
  (case z22=>exact ag rfl)
  (case v22=>exact(.cons ⟨_,Z⟩ (.cons ⟨_,Z⟩ .nil)))
  (case t23=>k_is)
  (case z23=>exact ag rfl)
  (case v23=>exact(.cons rfl (.cons rfl .nil)))
  (case t24=>k_is)
  (case z24=>exact ag rfl)
  (case v24=>exact(.cons rfl (.cons rfl (.cons rfl .nil))))
  (case t25=>k_is)
  (case z25=>exact ag rfl)
  (case v25=>exact(.cons ⟨_,Z⟩ (.cons ⟨_,Z⟩ .nil)))
  (case t26=>k_is)
  (case z26=>exact ag rfl)
  (case v26=>exact(.cons ⟨_,Z⟩ (.cons ⟨_,Z⟩ .nil)))
  (case t27=>k_is)
  (case z27=>exact ag rfl)
  (case v27=>exact(.cons ⟨_,Z⟩ (.cons ⟨_,Z⟩ .nil)))
  (case t28=>k_is)
  (case z28=>exact ag rfl)
  (case v28=>exact(.cons ⟨_,Z⟩ (.cons ⟨_,Z⟩ .nil)))
  (case t29=>k_is)
  (case z29=>exact ag rfl)
  (case v29=>exact(.cons rfl (.cons rfl .nil)))
  (case t30=>k_is)
  (case z30=>exact ag rfl)
  (case v30=>exact(.cons rfl (.cons rfl (.cons rfl .nil))))
  (case t31=>k_is)
  (case z31=>exact ag rfl)
  (case v31=>exact(.cons ⟨_,Z⟩ (.cons ⟨_,Z⟩ .nil)))
  (case t32=>k_is)
  (case z32=>exact ag rfl)
  (case v32=>exact(.cons ⟨_,Z⟩ (.cons ⟨_,Z⟩ .nil)))
  (case t33=>k_is)
  (case z33=>exact ag rfl)
  (case v33=>exact(.cons ⟨_,Z⟩ (.cons ⟨_,Z⟩ .nil)))
  (case t34=>k_is)
  (case z34=>exact ag rfl)
  (case v34=>exact(.cons ⟨_,Z⟩ (.cons ⟨_,Z⟩ .nil)))
  (case t35=>k_is)
  (case z35=>exact ag rfl)
  (case v35=>exact(.cons rfl (.cons rfl .nil)))
  (case t36=>k_is)
  (case z36=>exact ag rfl)
  (case v36=>exact(.cons rfl (.cons rfl (.cons rfl .nil))))
  (case t37=>k_is)
  (case z37=>exact ag rfl)
  (case v37=>exact(.cons ⟨_,Z⟩ (.cons ⟨_,Z⟩ .nil)))
  (case t38=>k_is)
  (case z38=>exact ag rfl)
  (case v38=>exact(.cons ⟨_,Z⟩ (.cons ⟨_,Z⟩ .nil)))
  (case t39=>k_is)
  (case z39=>exact ag rfl)
  (case v39=>exact(.cons ⟨_,Z⟩ (.cons ⟨_,Z⟩ .nil)))
  (case t40=>k_is)
  (case z40=>exact ag rfl)
  (case v40=>exact(.cons ⟨_,Z⟩ (.cons ⟨_,Z⟩ .nil)))
  (case t41=>k_is)
  (case z41=>exact ag rfl)
  (case v41=>exact(.cons rfl (.cons rfl .nil)))
  (case t42=>k_is)
  (case z42=>exact ag rfl)
  (case v42=>exact .nil)
  (case t43=>k_is)
  (case z43=>exact ag rfl)
  (case v43=>exact(.cons ⟨_,Z⟩ (.cons ⟨_,Z⟩ .nil)))
  (case t44=>k_is)
  (case z44=>exact ag rfl)
  (case v44=>exact(.cons rfl (.cons rfl .nil)))
  (case t45=>k_is)
  (case z45=>exact ag rfl)
  (case v45=>exact .nil)
  (case t46=>k_is)
  (case z46=>exact ag rfl)
  (case v46=>exact(.cons ⟨_,Z⟩ (.cons ⟨_,Z⟩ .nil)))
  (case t47=>k_is)
  (case z47=>exact ag rfl)
  (case v47=>exact(.cons rfl (.cons rfl .nil)))
  (case t48=>k_is)
  (case z48=>exact ag rfl)
  (case v48=>exact .nil)
  (case t49=>k_is)
  (case z49=>exact ag rfl)
  (case v49=>exact(.cons ⟨_,Z⟩ (.cons ⟨_,Z⟩ .nil)))
  (case t50=>k_is)
  (case z50=>exact ag rfl)
  (case v50=>exact(.cons rfl (.cons rfl .nil)))
  (case t51=>k_is)
  (case z51=>exact ag rfl)
  (case v51=>exact .nil)
  (case t52=>k_is)
  (case z52=>exact ag rfl)
  (case v52=>exact(.cons rfl (.cons rfl .nil)))
  (case t53=>k_is)
  (case z53=>exact ag rfl)
  (case v53=>exact(.cons rfl .nil))
  (case t54=>k_is)
  (case z54=>exact ag rfl)
  (case v54=>exact(.cons ⟨_,Z⟩ (.cons ⟨_,Z⟩ .nil)))
  (case t55=>k_is)
  (case z55=>exact ag rfl)
  (case v55=>exact(.cons rfl (.cons rfl .nil)))
  (case t56=>k_is)
  (case z56=>exact ag rfl)
  (case v56=>exact .nil)
  (case t57=>k_is)
  (case z57=>exact ag rfl)
  (case v57=>exact(.cons rfl (.cons rfl .nil)))
  (case t58=>k_is)
  (case z58=>exact ag rfl)
  (case v58=>exact .nil))
 exact⟨⟨_,_,_,_,_,_,_,_,_,_,_,_,_,_,_,_,_,_,_,_,_,_,_,_,_,_,_,_,_,_,_,_,_,_,_,_,_,_,_,_,_,_,_,_,_,_,_,_,_,_,_,_,_,_,_,_,_,_,_,_,_,_,_,_,_,_,_,_,_,_,_,_,_,_,_,_,_,_,_,_,_,_,_,_,_,_,_,_,_,_,_,_,bI.D,aR.D,aM.D,eG.D,fQ.D,fF.D,ck.D,eU.D,bZ.D,bP.D,bg.D,cJ.D,fC.D,dc.D,dU.D,cA.D,dN.D,fh.D,b9.D,xC,xf,Jr,_,_,_,_,_,_,_,_,_,_,_,iL.a⟩,⟨Sw.bu,Sw.bu,Sw.bu,Sw.bu,Sw.bu,Sw.bu,Sw.bu,Sw.bu,Sw.bu,Sw.bu,Sw.bu,Sw.bu,Sw.bu,Sw.bu,Sw.bu,Sw.bu,Sw.bu,Sw.bu,Sw.bu,Sw.bu,Sw.bu,Sw.bu,Sw.bu,Sw.bu,Sw.bu,Sw.bu,Sw.bu,Sw.bu,Sw.bu,Sw.bu,Sw.bu,Sw.bu,Sw.bu,Sw.bu,Sw.bu,Sw.bu,Sw.bu,Sw.bu,Sw.bu,Sw.bu,Sw.bu,Sw.bu,Sw.bu,Sw.bu,Sw.bu,Sw.bu,Sw.bu,Sw.bu,Sw.bu,Sw.bu,Sw.bu,Sw.bu,Sw.bu,Sw.bu,Sw.bu,Sw.bu,Sw.bu,Sw.bu,Sw.bu,Sw.bu,Sw.bu,Sw.bu,Sw.bu,Sw.bu,Sw.bu,Sw.bu,Sw.bu,Sw.bu,Sw.bu,Sw.bu,Sw.bu,Sw.bu,Sw.bu,Sw.bu,Sw.bu,Sw.bu,Sw.bu,Sw.bu,Sw.bu,Sw.bu,Sw.bu,Sw.bu,Sw.bu,Sw.bu,Sw.bu,Sw.bu,Sw.bu,Sw.bu,Sw.bu,Sw.bu,Sw.bu,Sw.bu,bI.P,dO,el,me,iE,aR.P,gW,fq,fS,gP,pK,mL,mM,aM.P,dW,iM,dD,dE,gf,eG.P,fQ.P,fF.P,ck.P,eU.P,bZ.P,ft,eJ,ny,nz,bP.P,jG,jk,nA,tm,bg.P,rL,oC,cJ.P,fC.P,dc.P,dU.P,cA.P,dN.P,fh.P,b9.P,dM,gE,x_F,CP,nB,vm,Sw.wq,Sw.wq,Sw.wq,Sw.wq,Sw.wq,Sw.wq,Sw.wq,Sw.wq,Sw.wq,Sw.wq,Sw.wq,Sw.yq (hv:=by exact(.cons ⟨_,Z⟩ (.cons ⟨_,Z⟩ (.cons ⟨_,Z⟩ (.cons ⟨_,Z⟩ (.cons ⟨_,Z⟩ .nil)))))),Sw.d5,Sw.yq (hv:=by exact(.cons ⟨_,Z⟩ (.cons ⟨_,Z⟩ (.cons ⟨_,Z⟩ (.cons ⟨_,Z⟩ (.cons ⟨_,Z⟩ (.cons ⟨_,Z⟩ .nil))))))),Sw.yq (hv:=by exact(.cons ⟨_,Z⟩ (.cons ⟨_,Z⟩ (.cons ⟨_,Z⟩ .nil)))),Sw.yq (hv:=by exact(.cons ⟨_,Z⟩ (.cons ⟨_,Z⟩ (.cons ⟨_,Z⟩ (.cons ⟨_,Z⟩ (.cons ⟨_,Z⟩ (.cons ⟨_,Z⟩ (.cons ⟨_,Z⟩ (.cons ⟨_,Z⟩ .nil))))))))),Sw.ND (hk:=Sw.HZ [.inr "not",.inr "grow",.inr "&",.inr "|"] (by exact(.cons ⟨Z,Z⟩ (.cons ⟨Z,Z⟩ (.cons ⟨Z,Z⟩ (.cons ⟨Z,Z⟩ .nil)))))) (hp:=by exact(.cons (kv:=(.inr "not",_)) rfl rfl (.cons (kv:=(.inr "grow",_)) rfl rfl (.cons (kv:=(.inr "&",_)) rfl rfl (.cons (kv:=(.inr "|",_)) rfl rfl .nil))))) (kv:=by exact(.cons ⟨Z,_,Z⟩ (.cons ⟨Z,_,Z⟩ (.cons ⟨Z,_,Z⟩ (.cons ⟨Z,_,Z⟩ .nil))))),Sw.d5,Sw.d5,Sw.d5,Sw.d5,Sw.yq (hv:=by exact(.cons ⟨_,Z⟩ (.cons ⟨_,Z⟩ (.cons ⟨_,Z⟩ (.cons ⟨_,Z⟩ (.cons ⟨_,Z⟩ (.cons ⟨_,Z⟩ .nil))))))),Sw.yq (hv:=by exact(.cons ⟨_,Z⟩ (.cons ⟨_,Z⟩ .nil))),Sw.yq (hv:=by exact(.cons ⟨_,Z⟩ (.cons ⟨_,Z⟩ (.cons ⟨_,Z⟩ .nil)))),Sw.d5,Sw.d5,Sw.d5,Sw.d5,Sw.d5,Sw.d5,Sw.d5,Sw.yq (hv:=by exact(.cons ⟨_,Z⟩ (.cons ⟨_,Z⟩ (.cons ⟨_,Z⟩ (.cons ⟨_,Z⟩ .nil))))),Sw.ND (hk:=Sw.HZ [.inl 38,.inl 40,.inl 41,.inl 59,.inl 124] (by exact(.cons ⟨Z,Z⟩ (.cons ⟨Z,Z⟩ (.cons ⟨Z,Z⟩ (.cons ⟨Z,Z⟩ (.cons ⟨Z,Z⟩ .nil))))))) (hp:=by exact(.cons (kv:=(.inl 38,_)) rfl rfl (.cons (kv:=(.inl 40,_)) rfl rfl (.cons (kv:=(.inl 41,_)) rfl rfl (.cons (kv:=(.inl 59,_)) rfl rfl (.cons (kv:=(.inl 124,_)) rfl rfl .nil)))))) (kv:=by exact(.cons ⟨Z,_,Z⟩ (.cons ⟨Z,_,Z⟩ (.cons ⟨Z,_,Z⟩ (.cons ⟨Z,_,Z⟩ (.cons ⟨Z,_,Z⟩ .nil)))))),Sw.afa,Sw.d5,Sw.d5,Sw.d5,Sw.d5,Sw.d5,Sw.d5,Sw.d5,Sw.d5,Sw.d5,Sw.d5,Sw.d5,Sw.ND (hk:=Sw.HZ [.inr "hurt",.inr "heal",.inr "push",.inr "pull"] (by exact(.cons ⟨Z,Z⟩ (.cons ⟨Z,Z⟩ (.cons ⟨Z,Z⟩ (.cons ⟨Z,Z⟩ .nil)))))) (hp:=by exact(.cons (kv:=(.inr "hurt",_)) rfl rfl (.cons (kv:=(.inr "heal",_)) rfl rfl (.cons (kv:=(.inr "push",_)) rfl rfl (.cons (kv:=(.inr "pull",_)) rfl rfl .nil))))) (kv:=by exact(.cons ⟨Z,_,Z⟩ (.cons ⟨Z,_,Z⟩ (.cons ⟨Z,_,Z⟩ (.cons ⟨Z,_,Z⟩ .nil))))),Sw.d5,Sw.d5,Sw.d5,Sw.d5,Sw.d5,Sw.d5,Sw.d5,Sw.d5,Sw.d5,Sw.d5,Sw.d5,Sw.d5,Sw.d5,Sw.d5,Sw.d5,Sw.d5,Sw.d5,Sw.d5,Sw.d5,Sw.d5,Sw.d5,Sw.d5,⟨iL.m,iL.q⟩⟩⟩
end Sw
local macro_rules
 | `(#[$xs,*])=>`(⟨$xs,*⟩)
namespace L2
open PySem PySem.Spec PyProof.Rows
def fL.YD (r:fL k A):A.units+66 < cLine:=by have:=r.un;lia
section
def afb {K:ak} [kX:lr X K] (hu:X.A.units+66 < cLine) (ha:QE X a ta) (hb:QE X b tb):QE X (.Compare a [.Eq] [b] pos) (gI (V9 K) ta tb):=by
 obtain⟨rfl⟩:=kX;exact(zt (TM (by lia)) ha hb (qG _))
def YE {K:ak} [kX:lr X K] (hu:X.A.units+66 < cLine) (ha:QE X a ta) (hb:QE X b tb):QT X (.Compare a [.Eq] [b] pos) (oV (gI (V9 K) ta tb)):=by
 obtain⟨rfl⟩:=kX;exact(DC (TM (by lia)) ha hb (qG _))
inductive Wx (K:ak) (x:V) (y:V) (H:Hp) (Q:VK):Prop where
 | mk d ds (_:Dp K H x d) (_:Dp K H y (.list ds)) (_:pY d=true) (_:oZ ds=true) (_:Q (.bl (ds.any λz=>z.eqv d)) H)
def ac3 (hu:X.A.units+66 < cLine):mU X (compareOp .In) (Wx X.K):=by
 intro af s σ H x y v u Q I rx ry h;obtain⟨d,ds,hd,he,sd,se,q⟩:=h;obtain⟨as,r1⟩:=Dp.reads I d x v hd rx;obtain⟨bs,r2⟩:=Dp.reads I _ y u he ry;unfold pY at sd;rw[aB] at sd;have dp:d.depth<=64:=of_decide_eq_true sd.2;exact SeqAt.in_list_reads r2 r1 se sd.1 (by have:=Nat.min_le_right (wW ds) d.depth;lia) #[.bl _,H,I,Z,q]
def afc {K:ak} [kX:lr X K] (hu:X.A.units+66 < cLine) (ha:QE X a ta) (hb:QE X b tb) (hm:behindInMarks .In b=false:=by rfl):QE X (.Compare a [.In] [b] pos) (gI (Wx K) ta tb):=by
 obtain⟨rfl⟩:=kX;exact(zt (ac3 hu) ha hb hm)
inductive ZZ (R:It->Hp->Prop) (x:V) (y:V) (H2:Hp):Prop where
 | mk (i j:Int) (_:x=.int i) (_:y=.int j) (_:(-(2 ^ 62)<=i/\i < 2 ^ 62/\-(2 ^ 62)<=j/\j < 2 ^ 62)) (_:R (yX i (j - i).toNat) H2)
def afd (ta tb:TE):TI:=λσ H R=>ta σ H λx H1=>tb σ H1 λy H2=>ZZ R x y H2
def ac4 (hm:X.mg "range" = none) (ha:QE X a ta) (hb:QE X b tb) (hg:Gl X "range":=by rfl) (hs:starEach [a,b] X.env=[(false,eval a X.env),(false,eval b X.env)]:=by rfl) (vE:starEach [b] X.env=[(false,eval b X.env)]:=by rfl):QI X tg (.Call (.Name "range" p) [a,b] [] pos) (afd ta tb):=by
 have z:=QI.i (tg:=tg) (Tj (p:=p) (pos:=pos) hg hm (ae ha (ae hb ao vE) (by rw[hs,vE])).o hs vE);refine cast (congrArg (QI X _ _) ?_) z;funext σ H R;show ta σ H _=ta σ H _;congr 1;funext y H1;show tb σ H1 _=tb σ H1 _;congr 1;funext y2 H2;apply propext;constructor
 ·rintro⟨a,b,e,c,d⟩;cases e;exact#[a,b,Z,Z,c,d]
 rintro⟨a,b,rfl,rfl,c,d⟩;exact#[a,b,Z,c,d]
def ac5 (i:Nat) (hN:X.N.Nodup) (he:QE X e te) (hi:X.N[i]?=some x:=by rfl) (hx:Loc X.env.scope x:=by first | exact Or.inl rfl | exact Or.inr rfl) (hf:X.fn x=true\/X.env.scope.names.lookup x=some .local:=by first | exact .inl rfl | exact .inr rfl) :
  QS X (.AugAssign (.Name x jz) .Sub e pos) (RE i te (Tf λi j=>i - j)):=.i (Te hN hi hx he.o abq hf)
end
def XF (x C dx:Addr):Heap->Prop:=λh=>∃oe vs,h.get? x=some oe/\oe.cls=.ref C/\oe.dict=some dx/\oe.data=.fields vs
theorem afe {P:Program} {w:World} (e:XF x C dx h):j6 P w H h x (.ext (XF x C dx)):=
 #[e,let⟨oe,_,q,_⟩:=e;#[oe,q],λh1 h2 #[oe,vs,q,r] k=>#[oe,vs,k _ q,r]]
def Un.upx (u:Un fs [] H H' h h1) (hx:h.get? x=none) (hH:H' x=none):Un fs [] H (aX H' x ob) h h1:=by
 have nx :∀b o,H' b=some o->b≠x:=λb o q z=>by rw[z,hH] at q;cases q
 refine#[u.keep,u.slot,λb o e n he=>?_,u.there,λb xs e=>?_,λb o z e=>?_,λb ps e=>?_]
 ·rw[au (λz=>by rw[z,hx] at e;cases e)];exact u.free b o e n he
 ·have q:=u.xn b xs e
  rw[au (nx b _ q)];exact q
 ·have q:=u.vL b o z e
  rw[au (nx b _ q)];exact q
 obtain⟨more,q⟩:=u.xo b ps e;exact#[more,by rw[au (nx b _ q)];exact q]
theorem jq.upx {P:Program} {w:World} (ok:jq P w H h) (hx:H x=none) (e:XF x C dx h):jq P w (aX H x (.ext (XF x C dx))) h:=λb o q=>by
 have nx :∀b o,H b=some o->b≠x:=λb o q z=>by rw[z,hx] at q;cases q
 by_cases z:b=x
 ·subst z
  rw[ah] at q;cases q;exact afe e
 rw[au z] at q;exact(ok b o q).zV (λ_ _ _ z=>z) (λc z=>by rw[au (nx c _ z)];exact z) λc xs z=>by rw[au (nx c _ z)];exact z
section
def Inv.aho (I:Inv X af σ H s) (hn:h'.Ns X.env.locals m') (hs:A9 X.env.locals s.heap h'):Inv X af (σ.map λ_=>none) H { s with heap:=h',toks:=t' }:=by
 obtain⟨m,⟨oL,_,_,hoL,_⟩,hl⟩:=id I.loc;refine#[I.ok,I.os,I.bare,#[λb o e n hb hx=>?_,λb o e n hb hx=>?_,I.aS.free,λb o e hx=>?_,I.aS.xn,I.aS.vL,I.aS.xo],#[_,hn,λj y v' e1 e2 e3=>?_],λy c e=>?_,I.free,I.oU,λp hp=>?_,?_,by simpa using I.len]
 ·exact(hs.2 b (dR (b6 (bH e) I.ok.above))).trans (I.aS.keep b o e n hb hx)
 ·obtain⟨sl,e1⟩:=I.aS.slot b o e n hb hx
  exact#[sl,(hs.2 b (dR (b6 (bH e) I.ok.above))).trans e1]
 ·obtain⟨o',e1⟩:=I.aS.there b o e hx
  exact#[o',(hs.2 b (dR (b6 (bH e) I.ok.above))).trans e1]
 ·rw[aA] at e2
  cases q:σ[j]? <;> rw[q] at e2 <;> cases e2
 ·obtain⟨w',z⟩:=I.cell y c e
  exact#[w',z.sameBut hs (I.KW y c e)]
 ·obtain⟨e,n,ne,nf,d⟩:=I.pin p hp
  exact#[(hs.2 p.1 ne).trans e,n,ne,nf,d]
 intro b ob e;refine(I.cM b ob e).zV (λc w' hc q=>(hs.2 c ?_).trans q) (λ_ q=>q) λ_ _ q=>q;rintro rfl;have zo:=I.free;rcases hc with rfl | hc
 ·rw[zo] at e;cases e
 rw[zo] at hc;cases hc
def Z0 (T:uK X.K C fI) (fk:X.stack=X.env::X.outer) (mV:X.env.frame=some X.env.locals) (gF:Gl X nm) (mF:X.mg nm=some (.ref C)) (I:Inv X af σ H s) (hx:gC X.prog X.w X.stack H s Eh e s') (hC :∀c d H',Eh c d H'->c=.ref C)
  (hN:X.N.Nodup) (hi:X.N[i]?=some nx) (hk:X.env.scope.names.lookup nx=some .local)
  (hs :∀x dx H' s4,Eh (.ref C) (some dx) H'->H' x=none->Inv (X.exc x) af (σ.set i (some (.ref x))) (aX H' x (.ext (XF x C dx))) s4->wpAny (model X.prog X.w) (X.A.mark (some (.ref x))) (execs (b0::ux) X.env) (SP (X.exc x) af { nx:=λ_ _=>False,rt:=D.rt }) (λ_ _=>False) s4) (o9:(nm == ("__debug__" : Str))=false:=by decide) :
  wpAny (model X.prog X.w) X.A (noteFrame e X.env) (λ_ s2=>wpAny (model X.prog X.w) X.A (setFlight e none) (λ_ s3=>wpAny (model X.prog X.w) X.A (handleBy e X.env (.ExceptHandler (some (.Name nm np)) (some nx) (b0::ux) hp::[])) (SP X af D) X.xe s3) X.xe s2) X.xe s':=by
 obtain⟨x,C',dx,H',rfl,os,bare,un,cM,X',hE⟩:=hx;obtain rfl:C'=C:=by have:=hC _ _ _ hE;cases this;rfl
 obtain⟨cn,q,N,bs,sn,sub,ab,col,dd,k0,k1,k2,k3,k5,m,lk,nk,m1,m2,m3,m4,m5,m6⟩:=T.ex;have J:=I.Di os un cM bare (λb z=>absurd z (by simp));have nf :∀b∈rV X.stack,∀o,s'.heap.get? b=some o->∀vs,o.data≠.fields vs:=λb hb o ho=>by
  obtain⟨_,o1,e1,z⟩:=J.stack.mem hb;rw[ho] at e1;cases e1;exact z
 have B5 :∀b,s'.heap.objs.size<=b->Nw s.heap H' b:=λb hb=>by
  refine#[?_,cM.fresh hb];cases z:s.heap.get? b with
  | none=>rfl
  | some o=>
   obtain⟨o1,e1⟩:=un.there b o z (by simp);exact absurd (bH e1) (J1.mpr hb)
 have Wn:X.A.frames=some (X.env::X.outer):=by rw[<- fk];exact I.ok.frames
 have efr:(X.env::X.outer).filterMap (·.frame)=rV X.stack:=by rw[fk];rfl
 refine XX.Ng (L:=X.env.locals) (aS:=X.aS) Wn (by rw[<- fk];exact J.stack) mV X' (.inr rfl) B5 λh1 X1 K1=>?_;refine XX.Aa (s:={ s' with heap:=h1 }) (fr:=rV X.stack) X1 λh2 X2 K2=>?_;rw[efr] at K1;have T7:=K1.trans K2;have st :∀h3,XX.Kp (Nw s.heap H') (rV X.stack) s'.heap h3->Inv X af σ H' { s' with heap:=h3 }:=λh3 K3=>
  I.Di (s':={ s' with heap:=h3 }) os (un.kp K3 (λb hb=>hb) nf) (cM.kp K3 (λb z=>z.2) λb hb=>J.zH b hb) bare (λb z=>absurd z (by simp))
 have J2:=st h2 T7;refine wpAny_handleBy_cons (codeAny_handlers_test (mZ (J2.exc x) gF mF ?_ o9)) (by intro z;cases z);obtain⟨oe,vs,e1,hc,_⟩:=id X2;obtain⟨u6,g,d,tk,K4⟩:=s';refine wpAny_excMatches_sub_self (J2.j9 _ _ lk) e1 hc (by decide) (codeAny_handlers_suite_as ?_);refine XX.Aa (s:=#[h2,g,d,tk,K4]) (fr:=rV X.stack) X2 λh3 X3 K3=>?_;obtain⟨oe3,vs3,f1,f2,f3,f4,f5,_⟩:=id X3;have K13:=T7.trans K3;have un3:=un.kp K13 (λb hb=>hb) nf;have ahp:=cM.kp K13 (λb z=>z.2) λb hb=>J.zH b hb;have I3:Inv X af σ (aX H' x (.ext (XF x C' dx))) ⟨h3,g,d,tk,K4⟩:=
  I.Di (s':=#[h3,g,d,tk,K4]) os (un3.upx f5.1 f5.2) (ahp.upx f5.2 #[oe3,vs3,f1,f2,f3,f4]) bare (λb z=>absurd z (by simp))
 refine Dh I3 hN hi (.inl hk) (v:=.ref x) rfl (λs4 I4=>?_) (.inr hk);refine wpAny_mono (hs x dx H' s4 hE f5.2 (I4.exc x)) (λfl s5 z=>?_) λ_ _ z=>z.elim;have VG:(X.env.scope.kind == .class || (X.env.scope.kind == .module&&X.env.locals != X.env.globals))=false:=by rw[I.ok.kind];rfl
 have hkd:X.env.kindOf nx=some .local:=hk;cases fl with
 | ret u=>
  obtain⟨v,σ',H5,I5,rv,qv⟩:=z;have I6:=I5.DB I.ok;obtain⟨m,hn,_⟩:=id I6.loc;exact wpAny_nameGoes hkd hn VG λh' m' D6 YF=>#[v,_,H5,I6.aho D6 YF,rv,qv]
 | next=>obtain⟨_,_,_,z⟩:=z;exact z.elim
 | brk=>obtain⟨_,_,_,z⟩:=z;exact z.elim
 | cont=>obtain⟨_,_,_,z⟩:=z;exact z.elim
end
section
def YG (C:Addr) (i:Nat) (sp:Sp) (t:TA) (ts:TS):TS:=λD σ H=>t σ H λvs H1=>sp vs H1 (λ_ H2=>D.nx σ H2) λcls d H'=>cls=.ref C/\∀x dx,d=some dx->H' x=none->ts { nx:=λ_ _=>False,rt:=D.rt } (σ.set i (some (.ref x))) (aX H' x (.ext (XF x C dx)))
def Z1 (T:uK X.K C fI) (fk:X.stack=X.env::X.outer) (mV:X.env.frame=some X.env.locals) (gF:Gl X nm) (mF:X.mg nm=some (.ref C)) (G:gH X.prog X.w X.K X.mg X.aS (gC X.prog X.w) k f fd ps sp) (hr:fL k X.A) (hg:Gl X fn) (hm:X.mg fn=some (.ref f)) (hk:kz X.K (.ref f)=true) (hb:Binds X.K fd ps [])
  (ha:PA X.D9 (e::es) t) (hs :∀x,vM (X.exc x) (b0::ux) ts) (hN:X.N.Nodup) (hi:X.N[i]?=some nx) (hkl:X.env.scope.names.lookup nx=some .local) (Nj:(nm == ("__debug__" : Str))=false:=by decide) (Cz:(fn == ("__debug__" : Str))=false:=by decide)
  (he:starEach (e::es) X.env=(false,eval e X.env)::starEach es X.env:=by rfl) (iT:(backTo cp (starEach es X.env)).any (·.1)=false:=by rfl) (Na:swapsWith (.Call (.Name fn p) (e::es) [] cp) none rp.line X.env=pure false:=by rfl) :
  PS X (.Try [.Expr (.Call (.Name fn p) (e::es) [] cp) rp] [.ExceptHandler (some (.Name nm np)) (some nx) (b0::ux) hp] [] [] pos) (YG C i sp t ts):=by
 intro af s σ H D I h;refine wpAny_Try_except ?_;refine wpAny_execs_cons (wpAny_Expr_any (wpAny_Call_Name_kw (mZ I hg hm ?_ Cz)) I.quiet Na);refine k9 (h₀:=X.aS) I.ok.mod.KU hk (wpAny_mono (ha cp af s σ H _ (I.xp _) h) (λus s1 z=>?_) λ_ _ z=>z.elim) he iT;obtain⟨vs,H1,I1',r,q⟩:=z;have I1:Inv X af σ H1 s1:=I1'.uf;refine#[I1.j9,Qa G hr hb I1 r q (λu s2 z=>?_) λx s2 z=>?_]
 ·obtain⟨v,H2,I2,rv,qv⟩:=z
  exact wpAny_execs_nil (wpAny_execs_nil #[σ,H2,I2,qv])
 refine Z0 (D:=D) T fk mV gF mF I1 z (λc d H' w=>w.1) hN hi hkl (λx' dx H' s4 hE ID I4=>?_) Nj;exact hs x' af s4 _ _ _ I4 (hE.2 x' dx rfl ID)
def ac8 (i:Nat) (T:uK X.K C fI) (fk:X.stack=X.env::X.outer) (mV:X.env.frame=some X.env.locals) (mF:X.mg nm=some (.ref C)) {st:Stmt} {dF:cu ps} (TF:cU X.K X.mg fn st dF) (G:gH X.prog X.w X.K X.mg X.aS (gC X.prog X.w) k dF.f dF.fd ps sp) (hr:fL k X.A)
  (ha:QA X.D9 (e::es) t) (hN:X.N.Nodup) (hs :∀x,QB (X.exc x) (b0::ux) ts) (hi:X.N[i]?=some nx:=by rfl) (hkl:X.env.scope.names.lookup nx=some .local:=by rfl) (gF:Gl X nm:=by rfl) (hg:Gl X fn:=by rfl) (Nj:(nm == ("__debug__" : Str))=false:=by decide) (Cz:(fn == ("__debug__" : Str))=false:=by decide)
  (he:starEach (e::es) X.env=(false,eval e X.env)::starEach es X.env:=by rfl) (iT:(backTo cp (starEach es X.env)).any (·.1)=false:=by rfl) (Na:swapsWith (.Call (.Name fn p) (e::es) [] cp) none rp.line X.env=pure false:=by rfl) :
  QS X (.Try [.Expr (.Call (.Name fn p) (e::es) [] cp) rp] [.ExceptHandler (some (.Name nm np)) (some nx) (b0::ux) hp] [] [] pos) (YG C i sp t ts):=
 .i (Z1 T fk mV gF mF G hr hg TF.m TF.F.kp TF.b ha.o (λx=>(hs x).o) hN hi hkl Nj Cz he iT Na)
end
inductive aff (C:Addr) (f:Str) (Q:VK) (x':V) (H1:Hp):Prop where
 | mk x dx fs i (_:x'=.ref x) (_:H1 x=some (.ext (XF x C dx))) (_:H1 dx=some (.ext (XD dx fs))) (_:fs.lookup f=some (V.int i)) (_:Q (.int i) H1)
def tXf (C:Addr) (ta:TE) (f:Str):TE:=λσ H Q=>ta σ H λx' H1=>aff C f Q x' H1
section
def ac9 (T:uK X.K C fI) (hf:f = "number"\/f = "place") (ha:QE X o ta) (hb:attributeBase o f X.env (eval o X.env)=eval o X.env:=by rfl):QE X (.Attribute o f pos) (tXf C ta f):=by
 refine .i λaf s σ H Q I h=>?_;refine PN hb (cX (ha.o af s σ H _ I h) λu s1 #[x',H1,I1,rx,x,dx,fs,i,ex,e1,e2,e3,q1]=>?_);subst ex;obtain rfl:u=Value.ref x:=rx;obtain⟨nm,q,N,bs,sn,sub,ab,col,dd,k0,k1,k2,k3,k5,m,lk,nk,m1,m2,m3,m4,m5,m6⟩:=T.ex;obtain⟨oe,vs,hx,hc,hd,HN⟩:XF x C dx s1.heap:=(I1.cM x _ e1).1;obtain⟨mA,n1,rel,wi⟩:=Ni I1.cM e2;have yi:m f=none:=by rcases hf with rfl | rfl <;> assumption
 have hB:typeLookup (.type "Exception") f=pure none:=by
  rcases hf with rfl | rfl
  ·exact Dz
  exact E5
 have rf:=rel f;rw[e3] at rf;cases hm:mA f with
 | none=>rw[hm] at rf;exact rf.elim
 | some u=>
  rw[hm] at rf;obtain⟨t,rfl⟩ :∃t,u=Value.int i t:=rf;obtain⟨hp,g,d,tk,os⟩:=s1;exact XX.acv PySem.F.attrBase_Exception (I1.j9 _ _ lk) (nk.at_ _ I1.j9) m2 m3 yi hB hx hc HN hd n1 hm (PySem.W.handedOut_of rfl) #[.int i,H1,I1.tok _,#[t,Z],q1]
end
end L2
namespace Sw
open PySem PySem.Spec PyProof.Rows L2 _root_.Sp
def vI (l:List Int):List V:=l.map V.int
def spA (K:ak):Sp:=λvs H Q _=>∃(cp:Addr) (l:List Int) (cs:List (List (List Int))),vs=[.ref cp]/\aO K H cp (vI l)/\l.length<=20000/\d7 cZ l.length l=some cs/\cs.length<=100/\(∀c∈cs,jO c=true)/\
 ∀H' q,H' q=some (.lst (vI (rA (nE fU rD cs))))->Q (.ref q) H'
theorem Sf:Qj "answers" "answers" BC ["calls"]:=λ_ _ _ _ _ _ us h=>match us,h with | [_],_=>rfl
def Ul {K:ak} {mg:Str->Option Value} {d:cu ["calls"]} (T:cU K mg "answers" BC d) (s:Shared) (us:List Value) (hu:us.length=(["calls"]:List Str).length):BindsTo s d.fd #[us,[]] ((["calls"]:List Str).zip us):=by
 obtain⟨oc,od,kV,doc,pm,an,bx,ct,tL,e,lk,rF⟩:=T.F.ex;rw[e];exact .of_eq (Sf kV doc pm an bx ct us hu)
structure Ctx where
 P:Program
 w:World
 K:ak
 mg:Str->Option Value
 aS:Heap
 T:Yy
instance:Nonempty Ctx:=#[#[PySem.Challenge.pw_spellareas_s01_answers,#[λ_ _=>0,{ strHash:=λ_=>0,shareClass:=λ_=>0,mergeTok:=id,idOf:=λ_=>0,idOfShared:=λ_ _=>0,followText:=λ_=>false,idOfImm:=λ_=>0 }],[],λ_=>none,default,by constructor <;> exact default]]
def Good (c:Ctx):Prop:=Yz c.P c.w c.K c.mg c.T->gH c.P c.w c.K c.mg c.aS aL 52 c.T.ju.f c.T.ju.fd ["calls"] (spA c.K)
def ctx:Ctx:=Classical.epsilon λc=>¬ Good c
@[irreducible] def P:Program:=ctx.P
@[irreducible] def w:World:=ctx.w
@[irreducible] def K:ak:=ctx.K
@[irreducible] def mg:Str->Option Value:=ctx.mg
@[irreducible] def aS:Heap:=ctx.aS
@[irreducible] def T:Yy:=ctx.T
abbrev aK (CX:zY) (k:Nat) {ps:List Str} (d:cu ps) (sp:Sp):Prop:=gH P w K mg aS CX k d.f d.fd ps sp
abbrev wu (CX:zY) (k:Nat) {ps:List Str} (d:GZ ps) (sp:Sp):Prop:=gH P w K mg aS CX k d.f d.fd ps sp
def Wy (h:Yz P w K mg T->gH P w K mg aS aL 52 T.ju.f T.ju.fd ["calls"] (spA K)) (c:Ctx):Good c:=by
 refine Classical.byContradiction λn=>?_;have z:¬ Good ctx:=Classical.epsilon_spec (p:=λc=>¬ Good c) #[c,n];unfold P w K mg aS T at h;exact z h
variable [Y:Sw.Yz Sw.P Sw.w Sw.K Sw.mg Sw.T]
def sb (b:List Nat):Str:=#[b.toArray]
def FC (h:sb a=sb b):a=b:=by
 have:=congrArg (λz=>z.cps.toList) h;simpa [sb] using this
def yM:fK->Int
 | .word _=>1
 | .sign _=>1
 | .num _=>2
 | .bad=>3
 | .eof=>4
def Ia:fK->V
 | .word u=>.str (sb u)
 | .sign c=>.str (sb [c])
 | .num n=>.int (n:Nat)
 | _=>.str ""
inductive GT:bF->Prop
 | eof (p:Nat):GT [(.eof,p)]
 | bad (p:Nat):GT [(.bad,p)]
 | word {u:List Nat} {p:Nat} {r:bF}:(∀c∈u,da c=true)->GT r->GT ((.word u,p)::r)
 | sign {c p:Nat} {r:bF}:gk c=true->GT r->GT ((.sign c,p)::r)
 | num {n p:Nat} {r:bF}:GT r->GT ((.num n,p)::r)
def GT.head (h:GT t) :∃x r,t=x::r:=by
 cases h <;> exact#[_,_,Z]
def zA (t:fK) (n:Str):Bool:=match t with
 | .word u=>sb u == n
 | .sign c=>sb [c] == n
 | _=>false
def Mz (H:Hp) (a:Addr) (x:fK × Nat):Prop:=∃dx b,H a=some (.ins T.bP.C dx (m8 (.int (yM x.1)) (Ia x.1) (.int (x.2:Nat)) b))
structure dZ (H:Hp) (r:Addr) (t:bF):Prop where
 ex :∃(dx l:Addr) (as:List Addr) (i:Nat) (toks:bF),H r=some (.ins T.bg.C dx (eg (.ref l) (.int (i:Nat))))/\H l=some (.lst (as.map V.ref))/\as.length=toks.length/\
  (∀(j:Nat) (a:Addr) (x:fK × Nat),as[j]?=some a->toks[j]?=some x->Mz H a x)/\toks.drop i=t
def Ext (r:Addr) (H H':Hp):Prop:=∀b o,b≠r->H b=some o->H' b=some o
theorem Ext.refl (r:Addr) (H:Hp):Ext r H H:=λ_ _ _ h=>h
theorem Ext.trans (a:Ext r H H1) (b:Ext r H1 H2):Ext r H H2:=λc o n h=>b c o n (a c o n h)
theorem Ext.at:Ext r H (aX H r o):=λb u n h=>by rw[au n];exact h
theorem Ext.new (a:Ext r H H1) (h:H p=none):Ext r H (aX H1 p o):=λb u n e=>by rw[au (aI e h)];exact a b u n e
def Ext.free (a:Ext r H H1) (h:H1 p=none) (n:p≠r):H p=none:=by
 cases e:H p with
 | none=>rfl
 | some o=>rw[a p o n e] at h;cases h
def dZ.tok (h:dZ H r (x::t)) :∃(dx l:Addr) (as:List Addr) (i:Nat) (a:Addr),
  H r=some (.ins T.bg.C dx (eg (.ref l) (.int (i:Nat))))/\H l=some (.lst (as.map V.ref))/\as[i]?=some a/\Mz H a x/\
  (∀H',H' r=some (.ins T.bg.C dx (eg (.ref l) (.int ((i:Nat)+1))))->Ext r H H'->dZ H' r t)/\l≠r:=by
 obtain⟨dx,l,as,i,toks,h1,h2,h3,h4,h5⟩:=h.ex;have hi:toks[i]?=some x:=by
  have:(toks.drop i)[0]?=some x:=by rw[h5];rfl
  rw[List.getElem?_drop] at this;simpa using this
 have hil:i < as.length:=by rw[h3];exact(az.mp hi).1
 have ha:as[i]?=some as[i]:=aw hil;have hl:l≠r:=cN h2 h1 (by intro q;cases q);refine#[dx,l,as,i,as[i],h1,h2,ha,h4 i _ _ ha hi,λH' e1 e2=>#[dx,l,as,i+1,toks,by rw[e1];rfl,e2 _ _ hl h2,h3,λj a y q1 q2=>?_,?_],hl]
 ·obtain⟨qH,b,z⟩:=h4 j a y q1 q2
  exact#[qH,b,e2 _ _ (cN z h1 (λq=>absurd (congrArg dA (HO.ins.inj q).2.2) (by simp[m8,eg]))) z]
 rw[<- tI,h5];rfl
inductive qC (vs:List V) (H:Hp) (Q:VK) (_:XK):Prop where
 | mk (r:Addr) (x:fK × Nat) (t:bF) (_:vs=[.ref r]) (_:dZ H r (x::t)) (_ :∀a,Mz H a x->Q (.ref a) H)
def Wz:aK aL 1 T.cJ (qC):=by
 refine Y.cJ.F.run Jm λbx A outer s H vs Q E hr h=>?_;obtain⟨r,x,t,rfl,hR,q⟩:=h;obtain⟨dx,l,as,i,a,h1,h2,ha,hT,_,_⟩:=hR.tok;refine#[_,(aq (aD (bU (aW (aa 0)) (aW (aa 0))))),?_];refine#[_,Z,r,_,dx,_,_,Z,h1,Y.bg.cl,Y.rL,Z,_,Z,r,_,dx,_,_,Z,h1,Y.bg.cl,Y.oC,Z,l,_,_,_,Z,Z,aO.of h2,b8 (j:=i) (by rw[aA,ha];rfl),?_];exact q a hT
inductive Gr (vs:List V) (H:Hp) (Q:VK) (_:XK):Prop where
 | mk (r:Addr) (n:Str) (x:fK × Nat) (t:bF) (_:vs=[.ref r,.str n]) (_:dZ H r (x::t)) (_:Q (.bl (zA x.1 n)) H)
def Z2 (cy:aK aL 1 T.cJ (qC)):aK aL 2 T.fC (Gr):=by
 refine Y.fC.F.run Km λbx A outer s H vs Q E hr h=>?_;obtain⟨r,n,x,t,rfl,hR,q⟩:=h;obtain⟨dx,l,as,i,a,h1,h2,ha,hT,_,_⟩:=hR.tok;refine#[_,(aq (aD (vS (HP (aW (mq Y.cJ Y.bg.cl cy (hr.le rfl) aG (aa 0))) (df Y.Jv)) (nN (HP (aW (mq Y.cJ Y.bg.cl cy (hr.le rfl) aG (aa 0))) (aa 1)))))),?_];refine#[_,Z,r,dx,_,Z,h1,iY,r,x,t,Z,hR,λa1 #[oS,b1,z1]=>?_];refine#[a1,_,oS,_,_,Z,z1,Y.bP.cl,Y.jG,Z,Z,_,Z,?_];refine bE (λc=>?_) (λc=>?_)
 ·have c':yM x.1=1:=by
   have:=of_decide_eq_true c;exact V.int.inj this
  refine#[_,Z,r,dx,_,Z,h1,iY,r,x,t,Z,hR,λa2 #[qQ,b2,z2]=>?_];refine#[a2,_,qQ,_,_,Z,z2,Y.bP.cl,Y.jk,Z,_,Z,?_];obtain⟨x1,x2⟩:=x;cases x1 with
  | word u=>
   refine#[Z,?_];rw[show decide (Ia (fK.word u)=V.str n)=zA (.word u) n from Gi];exact q
  | sign u=>
   refine#[Z,?_];rw[show decide (Ia (fK.sign u)=V.str n)=zA (.sign u) n from Gi];exact q
  | _=>exact absurd c' (by simp[yM])
 have c':¬ yM x.1=1:=λz=>c (decide_eq_true (congrArg V.int z));obtain⟨x1,x2⟩:=x;cases x1 with
 | word u=>exact absurd rfl c'
 | sign u=>exact absurd rfl c'
 | _=>exact q
def nV (E:XK) (r:Addr) (H:Hp) (n p:Nat):Prop:=∀dx H',Ext r H H'->H' dx=some (.ext (XD dx (Jb (.int (n:Nat)) (.int (p:Nat)))))->E (.ref T.xC) (some dx) H'
theorem nV.on (h:nV E r H n p) (e:Ext r H H1):nV E r H1 n p:=λdx H' e' q=>h dx H' (e.trans e') q
theorem nV.now (h:nV E r H n p) :∀dx,H dx=none->E (.ref T.xC) (some dx) (aX H dx (.ext (XD dx (Jb (.int (n:Nat)) (.int (p:Nat)))))):=
 λdx hd=>h dx _ ((Ext.refl r H).new hd) ah
def Mp:gH P w K mg aS aL 1 T.xf T.Jr ["self","number","place"] (E6 T.xC):=by
 refine Y.x_F.run Mg λbx A outer s H vs Q E hr h=>?_;obtain⟨x,n,p,rfl,hx,q⟩:=h;refine#[_,(aj (acP Y.nB (by decide) (aa 0) (aa 1)) (aq (acP Y.nB (by decide) (aa 0) (aa 2)))),?_];refine#[_,Z,_,Z,x,Z,.inl #[hx,λdx hd cG=>?_]];refine#[_,Z,_,Z,x,Z,.inr #[dx,_,by rw[au (Ne.symm cG)];exact ah,ah,cG,by simp,?_]];rw[ij,ZS];exact q dx hd cG
def Ay (t:fK) (n:Nat):Nat:=match t with
 | .bad=>1
 | _=>n
inductive uh (vs:List V) (H:Hp) (_:VK) (E:XK):Prop where
 | mk (r:Addr) (x:fK × Nat) (t:bF) (_:vs=[.ref r]) (_:dZ H r (x::t)) (_:nV E r H (Ay x.1 2) x.2)
def Pg (cy:aK aL 1 T.cJ (qC)) (gv:gH P w K mg aS aL 1 T.xf T.Jr ["self","number","place"] (E6 T.xC)) :
  aK (gC P w) 3 T.dU (uh):=by
 refine Y.dU.F.yC yn λbx A outer s H vs Q E hr h=>?_;obtain⟨r,x,t,rfl,hR,q⟩:=h;obtain⟨dx,l,as,i,a,h1,h2,ha,hT,_,_⟩:=hR.tok;refine#[_,(aj (aZ 1 yn.nd (acE (dg (aW (mq Y.cJ Y.bg.cl cy (hr.le rfl) aG (aa 0))) (df Y.Kt)) (df Y.Mm) (df Y.Pe))) (aq (Ki Y.nB gv (hr.le rfl) Y.CP Y.vm rfl rfl (ae (aa 1) (ae (aW (mq Y.cJ Y.bg.cl cy (hr.le rfl) aG (aa 0))) ao)) (λ_ _ _ _ _ _ I hx hE=>Mx I hx (.inl rfl) hE)))),?_];refine#[_,Z,r,dx,_,Z,h1,iY,r,x,t,Z,hR,λa1 #[oS,b1,z1]=>?_];refine#[a1,_,oS,_,_,Z,z1,Y.bP.cl,Y.jG,Z,Z,_,Z,?_];have di :∀n:Nat,n=Ay x.1 2->rC (vN (tC (.int n)) (l5 1)) (Jc T.xC E (eM (bR 1) (eM (jf K (HS T.bg.C "token" (qC) E0 (bR 0) lO) "place") lO))) { nx:=λ_ H'=>Q .cj H',rt:=Q } (L2.start ["self","number"] [.ref r]) H:=λn hn=>by
  subst hn;refine#[_,Z,_,Z,r,dx,_,Z,h1,iY,r,x,t,Z,hR,λa2 #[qQ,b2,z2]=>?_];refine#[a2,_,qQ,_,_,Z,z2,Y.bP.cl,Y.nA,Z,_,_,Z,?_];exact q.now
 refine bE (λc=>?_) (λc=>?_)
 ·refine di 1 ?_
  have c':yM x.1=3:=V.int.inj (of_decide_eq_true c);obtain⟨x1,x2⟩:=x;cases x1 with
  | bad=>rfl
  | _=>exact absurd c' (by simp[yM])
 refine di 2 ?_;have c':¬ yM x.1=3:=λz=>c (decide_eq_true (congrArg V.int z));obtain⟨x1,x2⟩:=x;cases x1 with
 | bad=>exact absurd rfl c'
 | _=>rfl
inductive so (vs:List V) (H:Hp) (Q:VK) (_:XK):Prop where
 | mk (r:Addr) (n:Str) (x:fK × Nat) (t:bF) (_:vs=[.ref r,.str n]) (_:dZ H r (x::t)) (_:(zA x.1 n=true->∀H',dZ H' r t->Ext r H H'->Q (.bl true) H')/\(zA x.1 n=false->Q (.bl false) H))
theorem dZ.next (h1:H r=some (.ins T.bg.C dx (eg (.ref l) (.int (i:Nat)))))
  (h :∀H',H' r=some (.ins T.bg.C dx (eg (.ref l) (.int ((i:Nat)+1))))->Ext r H H'->dZ H' r t):dZ (aX H r (.ins T.bg.C dx (eg (.ref l) (.int ((i:Nat)+1))))) r t:=h _ ah Ext.at
def Um (gq:aK aL 2 T.fC (Gr)):aK aL 3 T.dc (so):=by
 refine Y.dc.F.run An λbx A outer s H vs Q E hr h=>?_;obtain⟨r,n,x,t,rfl,hR,q1,q2⟩:=h;obtain⟨dx,l,as,i,a,h1,h2,ha,hT,hN,_⟩:=hR.tok;refine#[_,(aj (aZ 2 An.nd (eQ Y.fC Y.bg.cl gq (hr.le rfl) aG (aa 0) (ae (aa 1) ao))) (aj (bG (gD (aa 2)) (aq (CC (aa 0) bL)) bp) (aq (aD (aa 2))))),?_];refine#[_,Z,r,dx,_,Z,h1,tf,_,Z,r,n,x,t,Z,hR,?_];refine#[_,Z,_,Z,bE (λc=>?_) (λc=>?_)]
 ·refine#[_,Z,r,_,dx,_,_,Z,h1,Y.bg.cl,Y.oC,Z,_,_,Z,Z,dx,_,h1,(by simp[eg]),?_]
  rw[yL];refine#[_,Z,?_];rw[c];exact q1 c _ (dZ.next h1 hN) Ext.at
 refine#[_,Z,?_];rw[cD.mpr c];exact q2 (cD.mpr c)
def xc (t:fK) (ns:List Str):Bool:=match t with
 | .word u=>ns.contains (sb u)
 | .sign c=>ns.contains (sb [c])
 | _=>false
def zM (n:Str) (ns:List Str):pf (.str n) (ns.map V.str)=ns.contains n:=by
 unfold pf
 induction ns with
 | nil=>rfl
 | cons m r ih=>
  rw[cv,gQ,ih,jx];congr 1;show(m == n)=(n == m);exact BEq.comm
def sr (ns:List Str):(ns.map V.str).all qo=true:=by
 rw[Bb];exact fZ.mpr λ_ _=>rfl
def Qk (z:H a=some (.ins T.bP.C dx (m8 v0 v1 v2 v3))) (h:H r=some (.ins T.bg.C qH (eg u0 u1))):aX H r o a=some (.ins T.bP.C dx (m8 v0 v1 v2 v3)):=by
 rw[au (cN z h (λq=>absurd (congrArg dA (HO.ins.inj q).2.2) (by simp[m8,eg])))];exact z
inductive pL (vs:List V) (H:Hp) (Q:VK) (E:XK):Prop where
 | mk (r q:Addr) (ns:List Str) (x:fK × Nat) (t:bF) (_:vs=[.ref r,.ref q]) (_:gN K H q (ns.map V.str)) (_:dZ H r (x::t)) (_:(xc x.1 ns=true->∀H',dZ H' r t->Ext r H H'->Q (Ia x.1) H')/\(xc x.1 ns=false->nV E r H (Ay x.1 2) x.2))
def NF (cy:aK aL 1 T.cJ (qC)) (gj:aK (gC P w) 3 T.dU (uh)) :
  aK (gC P w) 4 T.cA (pL):=by
 refine Y.cA.F.yC xa λbx A outer s H vs Q E hr h=>?_;obtain⟨r,q,ns,x,t,rfl,hq,hR,q1,q2⟩:=h;obtain⟨dx,l,as,i,a,h1,h2,ha,hT,hN,_⟩:=hR.tok;refine#[_,(aj (aZ 2 xa.nd (mq Y.cJ Y.bg.cl cy (hr.le rfl) aG (aa 0))) (aj (bG (qK (w_or (Ab (aW (aa 2)) (df Y.Jv)) (oX (aeP (aW (aa 2)) (aa 1))))) (aq (dC (mq Y.dU Y.bg.cl gj (hr.le rfl) (iW λ_ _ _ z=>z) (aa 0)))) bp) (aj (CC (aa 0) bL) (aq (aD (aW (aa 2))))))),?_];refine#[_,Z,r,dx,_,Z,h1,iY,r,x,t,Z,hR,λa1 #[oS,b1,z1]=>?_];have go:xc x.1 ns=true->rC (zI K (bR 0) (tC (.int 1)) MX "at") (ql (jf K (bR 2) "value")) { nx:=λ_ H'=>Q .cj H',rt:=Q } [some (.ref r),some (.ref q),some (.ref a1)] H:=λc=>by
  refine#[_,Z,r,_,dx,_,_,Z,h1,Y.bg.cl,Y.oC,Z,_,_,Z,Z,dx,_,h1,(by simp[eg]),?_];rw[yL];have z2:=Qk (o:=.ins T.bg.C dx (eg (.ref l) (.int ((i:Nat)+1)))) z1 h1;exact#[_,Z,a1,_,oS,_,_,Z,z2,Y.bP.cl,Y.jk,Z,q1 c _ (dZ.next h1 hN) Ext.at]
 have stop:xc x.1 ns=false->Bo (HS T.bg.C "misplace" (uh) E (bR 0) lO) { nx:=rC (zI K (bR 0) (tC (.int 1)) MX "at") (ql (jf K (bR 2) "value")) { nx:=λ_ H'=>Q .cj H',rt:=Q },rt:=Q } [some (.ref r),some (.ref q),some (.ref a1)] H:=λc=>by
  exact#[_,Z,r,dx,_,Z,h1,sj,r,x,t,Z,hR,q2 c]
 refine#[_,Z,a1,_,oS,_,_,Z,z1,Y.bP.cl,Y.jG,Z,Z,_,Z,?_];obtain⟨x1,x2⟩:=x;cases x1 with
 | word u=>
  refine cH ?_;refine#[_,Z,a1,_,oS,_,_,Z,z1,Y.bP.cl,Y.jk,Z,_,Z,q,_,Z,.inr hq,Z,sr ns,_,Z,?_];show(if(!pf (.str (sb u)) (ns.map V.str))=true then _ else _);rw[zM];refine bE (λc=>?_) (λc=>?_)
  ·exact stop (by simpa [xc] using c)
  exact go (by simpa [xc] using c)
 | sign u=>
  refine cH ?_;refine#[_,Z,a1,_,oS,_,_,Z,z1,Y.bP.cl,Y.jk,Z,_,Z,q,_,Z,.inr hq,Z,sr ns,_,Z,?_];show(if(!pf (.str (sb [u])) (ns.map V.str))=true then _ else _);rw[zM];refine bE (λc=>?_) (λc=>?_)
  ·exact stop (by simpa [xc] using c)
  exact go (by simpa [xc] using c)
 | _=>exact cF (stop rfl)
inductive xB (vs:List V) (H:Hp) (Q:VK) (E:XK):Prop where
 | mk (r:Addr) (lo hi:Nat) (x:fK × Nat) (t:bF) (_:vs=[.ref r,.int (lo:Nat),.int (hi:Nat)]) (_:dZ H r (x::t)) (_:match jm lo hi (x::t) with | .ok (n,t')=>∀H',dZ H' r t'->Ext r H H'->Q (.int (n:Nat)) H' | .error (n,p)=>nV E r H n p)
def Ku (cy:aK aL 1 T.cJ (qC)) (gv:gH P w K mg aS aL 1 T.xf T.Jr ["self","number","place"] (E6 T.xC)) (gj:aK (gC P w) 3 T.dU (uh)) :
  aK (gC P w) 4 T.dN (xB):=by
 refine Y.dN.F.yC va λbx A outer s H vs Q E hr h=>?_;obtain⟨r,lo,hi,x,t,rfl,hR,q⟩:=h;obtain⟨dx,l,as,i,a,h1,h2,ha,hT,hN,_⟩:=hR.tok;refine#[_,(aj (aZ 3 va.nd (mq Y.cJ Y.bg.cl cy (hr.le rfl) aG (aa 0))) (aj (bG (Ab (aW (aa 3)) (df Y.NA)) (aq (dC (mq Y.dU Y.bg.cl gj (hr.le rfl) (iW λ_ _ _ z=>z) (aa 0)))) bp) (aj (bG (uz (Je (aa 1) (aW (aa 3)) (aa 2))) (aq (Ki Y.nB gv (hr.le rfl) Y.CP Y.vm rfl rfl (ae (df Y.Ca) (ae (aW (aa 3)) ao)) (λ_ _ _ _ _ _ I hx hE=>Mx I hx (.inl rfl) hE))) bp) (aj (CC (aa 0) bL) (aq (aD (aW (aa 3)))))))),?_];refine#[_,Z,r,dx,_,Z,h1,iY,r,x,t,Z,hR,λa1 #[oS,b1,z1]=>?_];refine#[_,Z,a1,_,oS,_,_,Z,z1,Y.bP.cl,Y.jG,Z,Z,_,Z,?_];obtain⟨x1,x2⟩:=x;cases x1 with
 | num n=>
  refine cH ?_;have q':match (if lo<=n/\n<=hi then Except.ok (n,t) else .error (3,x2):Except gR (Nat × bF)) with
   | .ok (n,t')=>∀H',dZ H' r t'->Ext r H H'->Q (.int (n:Nat)) H'
   | .error (n,p)=>nV E r H n p:=q
  refine#[_,Z,_,Z,a1,_,oS,_,_,Z,z1,Y.bP.cl,Y.jk,Z,_,_,Z,Z,_,Z,?_];have bad:¬ (lo<=n/\n<=hi)->Jc T.xC E (eM (tC (.int 3)) (eM (jf K (bR 3) "place") lO)) { nx:=rC (zI K (bR 0) (tC (.int 1)) MX "at") (ql (jf K (bR 3) "value")) { nx:=λ_ H'=>Q .cj H',rt:=Q },rt:=Q } [some (.ref r),some (.int (lo:Nat)),some (.int (hi:Nat)),some (.ref a1)] H:=λc=>by
   rw[if_neg c] at q';exact#[_,Z,a1,_,oS,_,_,Z,z1,Y.bP.cl,Y.nA,Z,_,_,Z,nV.now q']
  refine bE (λc=>?_) (λc=>?_)
  ·have c1:(lo:Int)<=n:=of_decide_eq_true c
   refine#[_,Z,_,_,Z,Z,_,Z,?_];refine bE (λc=>?_) (λc=>?_)
   ·have c2:¬ (n:Int)<=hi:=by simpa using c
    exact bad (by lia)
   have c2:(n:Int)<=hi:=by simpa using c
   rw[if_pos #[by lia,by lia]] at q';refine#[_,Z,r,_,dx,_,_,Z,h1,Y.bg.cl,Y.oC,Z,_,_,Z,Z,dx,_,h1,(by simp[eg]),?_];rw[yL];have z2:=Qk (o:=.ins T.bg.C dx (eg (.ref l) (.int ((i:Nat)+1)))) z1 h1;exact#[_,Z,a1,_,oS,_,_,Z,z2,Y.bP.cl,Y.jk,Z,q' _ (dZ.next h1 hN) Ext.at]
  have c1:¬ (lo:Int)<=n:=λz=>c (decide_eq_true z);exact#[_,Z,cF (bad (by lia))]
 | _=>exact cF #[_,Z,r,dx,_,Z,h1,sj,r,_,t,Z,hR,q]
inductive Cb (vs:List V) (H:Hp) (Q:VK) (E:XK):Prop where
 | mk (r:Addr) (x:fK × Nat) (t:bF) (_:vs=[.ref r]) (_:dZ H r (x::t)) (_:(lh (x::t)=true->Q .cj H)) (_:(lh (x::t)=false->nV E r H (Ay x.1 2) x.2))
def Ph (cy:aK aL 1 T.cJ (qC)) (gj:aK (gC P w) 3 T.dU (uh)) :
  aK (gC P w) 4 T.fh (Cb):=by
 refine Y.fh.F.yC Fo λbx A outer s H vs Q E hr h=>?_;obtain⟨r,x,t,rfl,hR,q1,q2⟩:=h;obtain⟨dx,l,as,i,a,h1,h2,ha,hT,hN,_⟩:=hR.tok;refine#[_,(aq (bG (Ab (aW (mq Y.cJ Y.bg.cl cy (hr.le rfl) aG (aa 0))) (df Y.YB)) (aq (dC (mq Y.dU Y.bg.cl gj (hr.le rfl) (iW λ_ _ _ z=>z) (aa 0)))) bp)),?_];refine#[_,Z,r,dx,_,Z,h1,iY,r,x,t,Z,hR,λa1 #[oS,b1,z1]=>?_];refine#[a1,_,oS,_,_,Z,z1,Y.bP.cl,Y.jG,Z,Z,_,Z,?_];obtain⟨x1,x2⟩:=x;cases x1 with
 | eof=>exact cH (q1 rfl)
 | _=>exact cF #[_,Z,r,dx,_,Z,h1,sj,r,_,t,Z,hR,q2 rfl]
theorem eA (s:String):Str.ofString s=sb (bw s):=Str.ofString_eq_toList s
def ui (a b:List Nat):(sb a == sb b)=(a == b):=by
 apply fX;simp only[beq_iff_eq];exact#[FC,λh=>by rw[h]]
theorem CT:sb a=sb b↔a=b:=#[FC,λh=>by rw[h]]
def Cc (h:da c=true):gk c=false:=by
 unfold da at h;unfold gk;simp only[aB,decide_eq_true_eq] at h;simp only[Bool.or_eq_false_iff,beq_eq_false_iff_ne]
 lia
def BF (g:GT (x::t)) (s:String) (hs:(bw s).all da=true):zA x.1 (Str.ofString s)=bO (x::t) s:=by
 rw[eA];cases g with
 | eof=>rfl
 | bad=>rfl
 | num=>rfl
 | word=>exact ui _ _
 | @sign c p _ hc _=>
  show(sb [c] == sb (bw s))=false;rw[ui];rw[beq_eq_false_iff_ne];intro e;rw[<- e] at hs;simp only[uF,List.all_nil,nF] at hs;rw[Cc hs] at hc;cases hc
def vn (g:GT (x::t)) (hs:bw s=[c]) (hc:gk c=true):zA x.1 (Str.ofString s)=dj (x::t) c:=by
 rw[eA,hs];cases g with
 | eof=>rfl
 | bad=>rfl
 | num=>rfl
 | @sign d p _ h _=>
  show(sb [d] == sb [c])=(d == c);rw[ui];simp
 | @word u p _ hu _=>
  show(sb u == sb [c])=false;rw[ui,beq_eq_false_iff_ne];intro e;have:=hu c (by rw[e];simp);rw[Cc this] at hc;cases hc
def Az {α : Type} (n:Nat) (x:fK × Nat) (t:bF):(cV n (x::t):Except gR α)=.error (Ay x.1 n,x.2):=by
 obtain⟨x1,x2⟩:=x;cases x1 <;> rfl
def GT.tail (g:GT (x::t)) (h:x.1≠.eof) (h2:x.1≠.bad):GT t:=by
 cases g with
 | eof=>exact absurd rfl h
 | bad=>exact absurd rfl h2
 | word _ g=>exact g
 | sign _ g=>exact g
 | num g=>exact g
def Ho (g:GT t) (h:bO t s=true):GT (t.drop 1):=by
 cases g with
 | word _ g=>exact g
 | _=>simp[bO] at h
def uj (g:GT t) (h:dj t c=true):GT (t.drop 1):=by
 cases g with
 | sign _ g=>exact g
 | _=>simp[dj] at h
def FD {lo hi n:Nat} {t r:bF} (g:GT t) (h:jm lo hi t=.ok (n,r)):GT r:=by
 cases g with
 | num g=>
  unfold jm at h;dsimp only at h;split at h
  ·cases h;exact g
  cases h
 | _=>unfold jm cV at h;cases h
def i9:List Str:=["ball","ring","burst"]
def mf:List Str:=["self","target","line","bolt","all","beings","foes","friends"]
def dP:List Str:=["wall","floor","water","ice","fire"]
def DN:(i9++mf++dP).contains (sb u)=(aF.findIdx? λv=>v == u).isSome:=by
 apply fX;rw[List.contains_iff_mem,iA];constructor
 ·intro h
  have z:u∈aF:=by
   simp only[i9,mf,dP,List.cons_append,BR,bS,Bc,or_false,eA] at h;simp only[aF,cv,pX,bS,Bc,or_false];rcases h with h | h | h | h | h | h | h | h | h | h | h | h | h | h | h | h <;> (have:=FC h;simp[this])
  cases e:aF.findIdx? λv=>v == u with
  | none=>
   have:=List.findIdx?_eq_none_iff.mp e u z;simp at this
  | some k=>exact#[k,Z]
 rintro⟨k,h⟩;obtain⟨hk,he,_⟩:=dv.mp h;have e:aF[k]=u:=by simpa using he
 rw[<- e];have h16:k < 16:=by simpa [aF] using hk
 have :∀j:Nat,(hj:j < aF.length)->sb aF[j]∈i9++mf++dP:=by
  intro j hj;have KI:j < 16:=by simpa [aF] using hj
  simp only[i9,mf,dP,List.cons_append,BR,bS,Bc,or_false,eA]
  match j,KI with
  | 0,_ | 1,_ | 2,_ | 3,_ | 4,_ | 5,_ | 6,_ | 7,_ | 8,_ | 9,_ | 10,_ | 11,_ | 12,_ | 13,_ | 14,_ | 15,_=>simp[aF]
  | j+16,h=>exact absurd h (by lia)
 exact this k hk
theorem aT (h:H p=none) (o:HO):bo H (aX H p o):=λb u q=>by rw[au (aI q h)];exact q
theorem Ext.of (s:bo H H'):Ext r H H':=λb o _ h=>s b o h
def dZ.same (h:dZ H r t) (s:bo H H'):dZ H' r t:=by
 obtain⟨dx,l,as,i,toks,h1,h2,h3,h4,h5⟩:=h.ex;exact#[dx,l,as,i,toks,s _ _ h1,s _ _ h2,h3,λj a x q1 q2=>let⟨qH,b,z⟩:=h4 j a x q1 q2;#[qH,b,s _ _ z],h5]
def dZ.Uo (h:dZ H r t) (hp :∀C dx fs,H p≠some (.ins C dx fs)) (cG :∀(dx l:Addr) (v:V),H r=some (.ins T.bg.C dx (eg (.ref l) v))->p≠l):dZ (aX H p o) r t:=by
 obtain⟨dx,l,as,i,toks,h1,h2,h3,h4,h5⟩:=h.ex;refine#[dx,l,as,i,toks,?_,?_,h3,λj a x q1 q2=>?_,h5]
 ·rw[au (λz=>hp _ _ _ (z ▸ h1))];exact h1
 ·rw[au (Ne.symm (cG dx l _ h1))];exact h2
 obtain⟨qH,b,z⟩:=h4 j a x q1 q2;exact#[qH,b,by rw[au (λe=>hp _ _ _ (e ▸ z))];exact z]
def Up (hk:(aF.findIdx? λv=>v == u)=some k):i9.contains (sb u)=decide (5<=k/\k<=7)/\u=aF.getD k []:=by
 obtain⟨wx,he,_⟩:=dv.mp hk;have e:aF[k]=u:=by simpa using he
 have h16:k < 16:=by simpa [aF] using wx
 refine#[?_,by rw[bY,aw wx];exact e.symm];rw[<- e];have :∀j:Nat,(hj:j < aF.length)->i9.contains (sb aF[j])=decide (5<=j/\j<=7):=by
  intro j hj;have KI:j < 16:=by simpa [aF] using hj
  simp only[i9,eA]
  match j,KI with
  | 0,_ | 1,_ | 2,_ | 3,_ | 4,_ | 5,_ | 6,_ | 7,_ | 8,_ | 9,_ | 10,_ | 11,_ | 12,_ | 13,_ | 14,_ | 15,_=>simp[aF,CT,bw]
  | j+16,h=>exact absurd h (by lia)
 exact this k wx
def NG (H:Hp) (a:Addr) (it:Sp.Itm):Prop:=H a=some (.tup [.str (sb (mG it)),.int (Cv it:Nat)])
def eV (H:Hp):List Addr->List Sp.Itm->Prop:=Paired (NG H)
theorem eV.mono :∀{as:List Addr} {l:List Sp.Itm},eV H as l->(∀b xs,H b=some (.tup xs)->H' b=some (.tup xs))->eV H' as l
 | _,_,.nil,_=>.nil
 | _,_,.cons h r,k=>.cons (k _ _ h) (eV.mono r k)
theorem Paired.app {α β : Type} {F:α->β->Prop} :∀{l m:List α} {x y:List β},Paired F l x->Paired F m y->Paired F (l++m) (x++y)
 | _,_,_,_,.nil,h=>h
 | _,_,_,_,.cons h r,k=>.cons h (Paired.app r k)
theorem Paired.get {α β : Type} {F:α->β->Prop} :∀{l:List α} {x:List β},Paired F l x->∀{i:Nat} {a:α},l[i]?=some a->∃b,x[i]?=some b/\F a b
 | _,_,.nil,_,_,h=>by simp at h
 | _,_,.cons h r,0,_,e=>by
  cases e;exact#[_,Z,h]
 | _,_,.cons h r,i+1,a,e=>Paired.get r (i:=i) e
def gK (H:Hp) (p:Addr) (l:List Sp.Itm):Prop:=∃as:List Addr,H p=some (.lst (as.map V.ref))/\eV H as l
def Jw (res:Except gR (bD × bF)) (r:Addr) (H:Hp) (Q:VK) (E:XK):Prop:=match res with
 | .ok (a,t')=>∀H' p,dZ H' r t'->GT t'->Ext r H H'->H p=none->gK H' p (aQ a)->Q (.ref p) H'
 | .error (n,pl)=>nV E r H n pl
inductive FE (vs:List V) (H:Hp) (Q:VK) (E:XK):Prop where
 | mk (r:Addr) (t:bF) (_:vs=[.ref r]) (_:dZ H r t) (_:GT t) (_:match lL t with | .ok (a,t')=>∀H' p it,dZ H' r t'->GT t'->Ext r H H'->H p=none->aQ a=[it]->NG H' p it->Q (.ref p) H' | .error (n,pl)=>nV E r H n pl)
def Uq (cB:aK (gC P w) 4 T.cA (pL)) (iN:aK (gC P w) 4 T.dN (xB)) :
  aK (gC P w) 5 T.lS (FE):=by
 refine Y.lS.F.yC sZ λbx A outer s H vs Q E hr h=>?_;obtain⟨r,t,rfl,hR,hG,q⟩:=h;obtain⟨x,t1,rfl⟩:=hG.head;obtain⟨dx,l,as,i,a,h1,h2,ha,hT,hN,_⟩:=hR.tok;refine#[_,(aj (aZ 1 sZ.nd (eQ Y.cA Y.bg.cl cB (hr.le rfl) (iW λ_ _ _ z=>z) (aa 0) (ae (T8 (T8 (mX Y.jY.m) (mX Y.rK.m)) (mX Y.fR.m)) ao))) (aj (aZ 2 sZ.nd bL) (aj (bG (HR (aa 1) (mX Y.jY.m)) (aq (aZ 2 sZ.nd (eQ Y.dN Y.bg.cl iN (hr.le rfl) (iW λ_ _ _ z=>z) (aa 0) (ae bL (ae (df Y.Pf) ao))))) bp) (aq (aD (nP (ae (aa 1) (ae (aa 2) ao)))))))),?_];refine#[_,Z,r,dx,_,Z,h1,i7,?_];refine#[_,_,_,_,Z,Z,Y.jY.q _,Y.rK.q _,by simp,fB 11,λz=>absurd z (by simp),λ_ p1 hp1=>?_];refine#[_,_,_,_,Z,Z,gN.of ah,Y.fR.q _,by simp,fB 16,λz=>absurd z (by simp),λ_ p2 FF=>?_];have s1:=aT hp1 (.tup (i9.map V.str++mf.map V.str));have s2:=s1.trans (aT FF (.tup (i9.map V.str++mf.map V.str++dP.map V.str)));refine#[r,p2,i9++mf++dP,x,t1,Z,gN.of ah,hR.same s2,λil H' xg mW=>?_,λil=>?_]
 ·obtain⟨x1,x2⟩:=x
  have hw :∃u,x1=.word u:=by
   cases hG with
   | word=>exact#[_,Z]
   | @sign c p _ hc _=>
    exfalso;have z:(i9++mf++dP).contains (sb [c])=true:=il;rw[DN,iA] at z;obtain⟨k,hk⟩:=z;obtain⟨wx,he,_⟩:=dv.mp hk;have e:aF[k]=[c]:=by simpa using he
    have h16:k < 16:=by simpa [aF] using wx
    have :∀j:Nat,(hj:j < aF.length)->(aF[j]).length≠1:=by
     intro j hj;have KI:j < 16:=by simpa [aF] using hj
     match j,KI with
     | 0,_ | 1,_ | 2,_ | 3,_ | 4,_ | 5,_ | 6,_ | 7,_ | 8,_ | 9,_ | 10,_ | 11,_ | 12,_ | 13,_ | 14,_ | 15,_=>simp[aF,bw]
     | j+16,h=>exact absurd h (by lia)
    exact this k wx (by rw[e];rfl)
   | _=>exact absurd il (by simp[xc])
  obtain⟨u,rfl⟩:=hw;have NH:GT t1:=hG.tail (by simp) (by simp);have FG:(i9++mf++dP).contains (sb u)=true:=il;rw[DN,iA] at FG;obtain⟨k,hk⟩:=FG;have eE:=(Ext.of (r:=r) s2).trans mW;obtain⟨hsz,hu⟩:=Up hk;have q':match (if 5<=k/\k<=7 then(match jm 0 9 t1 with
    | .error e=>.error e
    | .ok (n,s)=>.ok (.basic k n,s)) else .ok (.basic k 0,t1):Except gR (bD × bF)) with
   | .ok (a,t')=>∀H' p it,dZ H' r t'->GT t'->Ext r H H'->H p=none->aQ a=[it]->NG H' p it->Q (.ref p) H'
   | .error (n,pl)=>nV E r H n pl:=by
   have e0:lL ((.word u,x2)::t1)=(if 5<=k/\k<=7 then(match jm 0 9 t1 with
    | .error e=>.error e
    | .ok (n,s)=>.ok (.basic k n,s)) else .ok (.basic k 0,t1)):=by
    show(match aF.findIdx? (λv=>v == u) with
     | none=>_
     | some i=>_)=_
    rw[hk];try rfl
   rw[<- e0];exact q
  refine#[_,Z,_,_,Z,.inr (Y.jY.q _),Z,sr i9,_,Z,?_];show(if(pf (.str (sb u)) (i9.map V.str))=true then _ else _);rw[zM,hsz];have di :∀(n:Nat) (H2:Hp) (t2:bF),dZ H2 r t2->GT t2->Ext r H' H2->(∀H' p it,dZ H' r t2->GT t2->Ext r H H'->H p=none->aQ (.basic k n)=[it]->NG H' p it->Q (.ref p) H')->
    ql (RN (eM (bR 1) (eM (bR 2) lO))) { nx:=λ_ H'=>Q .cj H',rt:=Q } [some (.ref r),some (.str (sb u)),some (.int (n:Nat))] H2:=λn H2 t2 g1 g2 g3 g4=>by
   refine#[_,Z,_,Z,fB 2,λp hp=>?_];have Ur:=eE.trans g3;obtain⟨_,_,_,_,_,zr,_⟩:=g1.ex;have xh:p≠r:=λz=>by rw[z,zr] at hp;cases hp
   refine g4 _ p (.sim k n) (g1.same (aT hp _)) g2 (Ur.trans (Ext.of (aT hp _))) (Ur.free hp xh) rfl ?_;show aX H2 p _ p=some (.tup [.str (sb (aF.getD k [])),.int (n:Nat)]);rw[ah,hu]
  refine bE (λc=>?_) (λc=>?_)
  ·rw[if_pos (of_decide_eq_true c)] at q'
   obtain⟨y,t2,rfl⟩:=NH.head;obtain⟨qH,l',qf,i',a',h1',_⟩:=xg.tok;refine#[_,Z,r,qH,_,Z,h1',ve,r,0,9,y,t2,Z,xg,?_];cases en:jm 0 9 (y::t2) with
   | error e=>
    rw[en] at q';exact nV.on q' eE
   | ok z=>
    obtain⟨n,t3⟩:=z;rw[en] at q';intro H2 g1 g2;exact di n H2 t3 g1 (FD NH en) g2 q'
  rw[if_neg (λz=>c (decide_eq_true z))] at q';exact di 0 H' t1 xg NH (Ext.refl r H') q'
 obtain⟨x1,x2⟩:=x;have e0:lL ((x1,x2)::t1)=.error (Ay x1 2,x2):=by
  cases hG with
  | @word u p _ hu _=>
   have z:(i9++mf++dP).contains (sb u)=false:=il;rw[DN] at z;cases hk:aF.findIdx? (λv=>v == u) with
   | some k=>rw[hk] at z;cases z
   | none=>
    show(match aF.findIdx? (λv=>v == u) with
     | none=>_
     | some i=>_)=_
    rw[hk];try rfl
  | _=>rfl
 rw[e0] at q;exact nV.on q (Ext.of s2)
def Us (d:Nat) :∀(a b:bD) (t:bF),AR 2 d a t=AR 2 d b t/\AR 1 d a t=AR 1 d b t/\AR 0 d a t=AR 0 d b t:=by
 induction d with
 | zero=>
  intro a b t;have h2 :∀t,AR 2 0 a t=AR 2 0 b t:=λt=>by rw[Iz,Iz 0 b];simp
  have h1:AR 1 0 a t=AR 1 0 b t:=by rw[SV,SV 0 b,h2]
  exact#[h2 t,h1,by rw[SU,SU 0 b,h1]]
 | succ d ih=>
  intro a b t;have h2 :∀t,AR 2 (d+1) a t=AR 2 (d+1) b t:=λt=>by
   rw[Iz,Iz (d+1) b];simp only[Nat.add_sub_cancel];rw[(ih a b (t.drop 1)).1,(ih a b (t.drop 1)).2.2]
  have h1:AR 1 (d+1) a t=AR 1 (d+1) b t:=by rw[SV,SV (d+1) b,h2]
  exact#[h2 t,h1,by rw[SU,SU (d+1) b,h1]]
def tq (h1 :∀Q':VK,Q' (.bl b) H->ta σ H Q') (h2 :∀Q':VK,Q' (.bl b') H->tb σ H Q') (h:Q (.bl (b || b')) H):VI ta tb σ H Q:=by
 refine h1 _ #[b,Z,?_];cases b with
 | true=>exact h
 | false=>exact h2 _ h
def Ql (y:fK) (n:Str):xc y [n]=zA y n:=by cases y <;> simp only[xc,zA,jx,o6,fE]
def AA (a:bD):aQ a≠[]:=by cases a <;> simp[aQ]
theorem dZ.lst (h:dZ H r t) (hg:GT t) (hp:H p=some (.lst (as.map V.ref))) (hi:eV H as bq) (hn:bq≠[]):dZ (aX H p o) r t:=by
 refine h.Uo (λC dx fs z=>by rw[hp] at z;cases z) λdx l v hl e=>?_;subst e;obtain⟨dx,l,qf,i,toks,h1,h2,h3,h4,h5⟩:=h.ex;rw[h1] at hl;obtain⟨_,_,e⟩:=HO.ins.inj (bN.inj hl);have e':l=p:=by simpa [eg] using (congrArg (λz=>z.lookup ("tokens" : Str)) e)
 rw[e',hp] at h2;have ea:as.map V.ref=qf.map V.ref:=HO.lst.inj (bN.inj h2);have Tv:as=qf:=by
  have:=congrArg (sL (λv=>match v with | V.ref a=>a | _=>0)) ea;simpa [bB,Function.comp_def] using this
 subst Tv;cases hi with
 | nil=>exact hn rfl
 | @cons a it _ _ ha _=>
  obtain⟨x,t',rfl⟩:=hg.head;have:toks≠[]:=λz=>by rw[z] at h5;simp at h5
  obtain⟨y,ys,rfl⟩:=List.exists_cons_of_ne_nil this;obtain⟨qH,b,z⟩:=h4 0 a y rfl rfl;rw[show H a=_ from ha] at z;cases z
inductive tw (mode d:Nat) (vs:List V) (H:Hp) (Q:VK) (E:XK):Prop where
 | mk (r:Addr) (t:bF) (_:vs=[.ref r,.int (12 - (d:Nat))]) (_:dZ H r t) (_:GT t) (_:t.length<=1000) (_:Jw (AR mode d (.basic 4 0) t) r H Q E)
def Qm {d ka:Nat} {spA spU:Sp} (hd:d<=12) (hs:d=0\/(spA=tw 0 (d - 1)/\spU=tw 2 (d - 1))) (hk:6<=ka)
  (cy:aK aL 1 T.cJ (qC)) (gq:aK aL 2 T.fC (Gr))
  (cE:aK aL 3 T.dc (so)) (gv:gH P w K mg aS aL 1 T.xf T.Jr ["self","number","place"] (E6 T.xC))
  (cB:aK (gC P w) 4 T.cA (pL)) (lU:aK (gC P w) 5 T.lS (FE))
  (kL:aK (gC P w) ka T.iD spA) (x3:aK (gC P w) ka T.jB spU) :
  aK (gC P w) (ka+1) T.jB (tw 2 d):=by
 refine Y.jB.F.yC pv λbx A outer s H vs Q E hr h=>?_;obtain⟨r,t,rfl,hR,hG,hL,q⟩:=h;obtain⟨x,t1,rfl⟩:=hG.head;obtain⟨dx,l,as,i,a,h1,h2,ha,hT,hN,_⟩:=hR.tok;refine#[_,(aj (aZ 2 pv.nd (mq Y.cJ Y.bg.cl cy (hr.mono (by lia)) aG (aa 0))) (aj (aZ 3 pv.nd (DD (eQ Y.fC Y.bg.cl gq (hr.mono (by lia)) aG (aa 0) (ae dB ao)) (DD (eQ Y.fC Y.bg.cl gq (hr.mono (by lia)) aG (aa 0) (ae dB ao)) (nN (eQ Y.fC Y.bg.cl gq (hr.mono (by lia)) aG (aa 0) (ae dB ao)))))) (aj (bG (uz (gD (aa 3))) (aq (aD (cO (ae (aJ Y.lS lU (hr.mono (by lia)) (iW λ_ _ _ z=>z) (ae (aa 0) ao)) ao)))) bp) (aj (bG (dg (aa 1) (df Y.Mn)) (aq (Ki Y.nB gv (hr.mono (by lia)) Y.CP Y.vm rfl rfl (ae (df Y.Sb) (ae (aW (aa 2)) ao)) (λ_ _ _ _ _ _ I hx hE=>Mx I hx (.inl rfl) hE))) bp) (aj (bG (gD (eQ Y.dc Y.bg.cl cE (hr.mono (by lia)) aG (aa 0) (ae dB ao))) (aj (aZ 4 pv.nd (aJ Y.iD kL (hr.mono (by lia)) (iW λ_ _ _ z=>z) (ae (aa 0) (ae (iX (aa 1) bL) ao)))) (aj (dC (eQ Y.cA Y.bg.cl cB (hr.mono (by lia)) (iW λ_ _ _ z=>z) (aa 0) (ae (nP (ae dB ao)) ao))) (aq (aD (aa 4))))) bp) (aj (aZ 5 pv.nd (eQ Y.cA Y.bg.cl cB (hr.mono (by lia)) (iW λ_ _ _ z=>z) (aa 0) (ae (nP (ae dB (ae dB ao))) ao))) (aj (aZ 6 pv.nd (aJ Y.jB x3 (hr.mono (by lia)) (iW λ_ _ _ z=>z) (ae (aa 0) (ae (iX (aa 1) bL) ao)))) (aj (dC (qt (aa 6) (nP (ae (aa 5) (ae bL ao))))) (aq (aD (aa 6))))))))))),?_];refine#[_,Z,r,dx,_,Z,h1,iY,r,x,t1,Z,hR,λa1 #[oS,b1,z1]=>?_];dsimp only[l5];refine tq (b:=bO (x::t1) "not") (b':=bO (x::t1) "grow" || dj (x::t1) 40) (λQ' q=>?_) (λQ' q=>tq (b:=bO (x::t1) "grow") (b':=dj (x::t1) 40) (λQ'' q=>?_) (λQ'' q=>?_) q) ?_
 ·exact#[_,Z,r,dx,_,Z,h1,tf,r,_,x,t1,Z,hR,by rw[BF hG "not" (by decide)];exact q]
 ·exact#[_,Z,r,dx,_,Z,h1,tf,r,_,x,t1,Z,hR,by rw[BF hG "grow" (by decide)];exact q]
 ·exact#[_,Z,r,dx,_,Z,h1,tf,r,_,x,t1,Z,hR,by rw[vn hG (s:="(") (c:=40) rfl rfl];exact q]
 refine#[_,Z,_,Z,bE (λc=>?_) (λc=>?_)]
 ·have c':bO (x::t1) "not" = false/\bO (x::t1) "grow" = false/\dj (x::t1) 40=false:=by simpa using c
  obtain⟨n1,n2,n3⟩:=c';have e0:AR 2 d (.basic 4 0) (x::t1)=lL (x::t1):=by rw[Iz,n1,n2,n3];rfl
  rw[e0] at q;refine#[_,Z,r,_,Z,hR,hG,?_];cases es:lL (x::t1) with
  | error e=>rw[es] at q;exact q
  | ok z=>
   rw[es] at q;obtain⟨b,t2⟩:=z;intro H' p it g1 g2 g3 g4 g5 g6;refine#[fB 1,λp' u6=>?_];obtain⟨_,_,_,_,_,zr,_⟩:=g1.ex;have xh:p'≠r:=λz=>by rw[z,zr] at u6;cases u6
   refine q _ p' (g1.same (aT u6 _)) g2 (g3.trans (Ext.of (aT u6 _))) (g3.free u6 xh) #[[p],ah,?_];rw[g5];exact .cons (aT u6 _ _ _ g6) .nil
 have c':(bO (x::t1) "not" || (bO (x::t1) "grow" || dj (x::t1) 40))=true:=by
  cases h:(bO (x::t1) "not" || (bO (x::t1) "grow" || dj (x::t1) 40)) with
  | true=>rfl
  | false=>exact absurd (by rw[h];rfl) c
 have hx6:Ay x.1 6=6:=by
  obtain⟨x1,x2⟩:=x;cases x1 with
  | bad=>simp[bO,dj] at c'
  | _=>rfl
 refine#[_,Z,Z,_,Z,bE (λcd=>?_) (λcd=>?_)]
 ·have d0:d=0:=by
   have:=V.int.inj (of_decide_eq_true cd)
   lia
  subst d0;have e0:AR 2 0 (.basic 4 0) (x::t1)=.error (6,x.2):=by
   rw[Iz];simp only[if_true];rw[Az,hx6];cases o1:bO (x::t1) "not" <;> cases o2:bO (x::t1) "grow" <;> cases o3:dj (x::t1) 40 <;> simp_all
  rw[e0] at q;exact#[_,Z,a1,_,oS,_,_,Z,z1,Y.bP.cl,Y.nA,Z,_,_,Z,nV.now q]
 obtain⟨d',rfl⟩ :∃d',d=d'+1:=by
  cases d with
  | zero=>exact absurd (decide_eq_true rfl) cd
  | succ d'=>exact#[d',Z]
 obtain⟨rfl,rfl⟩:spA=tw 0 d'/\spU=tw 2 d':=by
  rcases hs with h | h
  ·lia
  exact h
 have hlv:(12 - ((d'+1:Nat):Int))+1=12 - (d':Int):=by lia
 have tN:t1.length<=1000:=by simp at hL;lia
 refine#[_,Z,r,dx,_,Z,h1,mK,r,_,x,t1,Z,hR,?_];rw[vn hG (s:="(") (c:=40) rfl rfl];refine#[λo3 H' xg mW=>?_,λo3=>?_]
 ·have Jx:GT t1:=uj hG o3
  have o12:bO (x::t1) "not" = false/\bO (x::t1) "grow" = false:=by
   obtain⟨x1,x2⟩:=x;cases x1 with
   | sign _=>exact#[Z,Z]
   | _=>simp[dj] at o3
  have e0:AR 2 (d'+1) (.basic 4 0) (x::t1)=(match AR 0 d' (.basic 4 0) t1 with
   | .error e=>.error e
   | .ok (a,r)=>if dj r 41=true then .ok (a,r.drop 1) else cV 2 r):=by
   rw[Iz,o12.1,o12.2,o3];rfl
  rw[e0] at q;refine#[_,Z,bE (λ_=>?_) (λz=>absurd rfl z)];refine#[_,Z,_,Z,_,_,Z,Z,?_];refine#[r,t1,congrArg (λz=>[V.ref r,V.int z]) hlv,xg,Jx,tN,?_];cases ea:AR 0 d' (.basic 4 0) t1 with
  | error e=>rw[ea] at q;exact nV.on q mW
  | ok z=>
   obtain⟨b,t2⟩:=z;rw[ea] at q;have q:Jw (if dj t2 41=true then(.ok (b,t2.drop 1):Except gR (bD × bF)) else cV 2 t2) r H Q E:=q;intro H2 p g1 g2 g3 g4 g5;obtain⟨y,t3,rfl⟩:=g2.head;obtain⟨qQ,l2,su,i2,a2,k1,_⟩:=g1.tok;refine#[_,Z,r,qQ,_,Z,k1,i7,fB 1,λp2 FF=>?_];have sN:=aT FF (.tup [.str ")"]);refine#[r,p2,[")"],y,t3,Z,gN.of ah,g1.same sN,?_];have eN:xc y.1 [")"]=dj (y::t3) 41:=by
    rw[<- vn g2 (s:=")") (c:=41) rfl rfl];exact Ql _ _
   rw[eN];refine#[λo4 H3 hR3 YH=>?_,λo4=>?_]
   ·rw[show(if dj (y::t3) 41=true then(.ok (b,(y::t3).drop 1):Except gR (bD × bF)) else cV 2 (y::t3))=.ok (b,t3) from by rw[o4];rfl] at q
    have hE:Ext r H H3:=(mW.trans g3).trans ((Ext.of sN).trans YH);obtain⟨NI,w1,w2⟩:=g5;have xh:p≠r:=cN w1 k1 (by intro z;cases z);have hp0:H p=none:=mW.free g4 xh;have ade:=(Ext.of (r:=r) sN).trans YH;exact#[_,Z,q H3 p hR3 (uj g2 o4) hE hp0 #[NI,ade _ _ xh w1,eV.mono w2 λb xs z=>ade _ _ (cN z k1 (by intro z;cases z)) z]]
   rw[show(if dj (y::t3) 41=true then(.ok (b,(y::t3).drop 1):Except gR (bD × bF)) else cV 2 (y::t3))=.error (Ay y.1 2,y.2) from by rw[o4,Az];rfl] at q;exact nV.on q ((mW.trans g3).trans (Ext.of sN))
 have c2:bO (x::t1) "not" = true\/bO (x::t1) "grow" = true:=by
  rw[o3] at c';simpa using c'
 obtain⟨x1,x2⟩:=x;obtain⟨u,rfl⟩ :∃u,x1=.word u:=by
  cases x1 with
  | word u=>exact#[u,Z]
  | _=>simp[bO] at c2
 have Jx:GT t1:=hG.tail (by simp) (by simp);refine#[_,Z,bE (λz=>absurd z (by simp)) (λ_=>?_)];refine#[_,Z,r,dx,_,Z,h1,i7,fB 2,λp2 FF=>?_];have sN:=aT FF (.tup [.str "not",.str "grow"]);refine#[r,p2,["not","grow"],_,t1,Z,gN.of ah,hR.same sN,?_];have eN:xc (.word u) ["not","grow"]=true:=by
  have z :∀s:String,bO ((.word u,x2)::t1) s=true->sb u=Str.ofString s:=λs h=>by
   rw[eA];exact congrArg sb (by simpa [bO] using h)
  rcases c2 with h | h
  ·simp[xc,z _ h]
  simp[xc,z _ h]
 rw[eN];refine#[λ_ H' xg mW=>?_,λz=>absurd z (by simp)];refine#[_,Z,_,Z,_,_,Z,Z,?_];refine#[r,t1,congrArg (λz=>[V.ref r,V.int z]) hlv,xg,Jx,tN,?_];have FH:=(Ext.of (r:=r) sN).trans mW;have di :∀(it:Sp.Itm) (mk:bD->bD),sb u=sb (mG it)->Cv it=0->(∀b,aQ (mk b)=aQ b++[it])->AR 2 (d'+1) (.basic 4 0) ((.word u,x2)::t1)=(match AR 2 d' (.basic 4 0) t1 with
   | .error e=>.error e
   | .ok (a,r)=>.ok (mk a,r))->Jw (AR 2 d' (.basic 4 0) t1) r H' (λv H2=>rC (Bo (Wr K (bR 6) (RN (eM (bR 5) (eM (tC (.int 0)) lO))))) (ql (bR 6)) { nx:=λ_ H'=>Q .cj H',rt:=Q } [some (.ref r),some (.int (12 - ((d'+1:Nat):Int))),some (.ref a1),some (.bl (bO ((.word u,x2)::t1) "not" || (bO ((.word u,x2)::t1) "grow" || dj ((.word u,x2)::t1) 40))),none,some (.str (sb u)),some v] H2) E:=λit mk e1 e2 e3 e4=>by
  rw[e4] at q;cases ea:AR 2 d' (.basic 4 0) t1 with
  | error e=>rw[ea] at q;exact nV.on q FH
  | ok z=>
   obtain⟨b,t2⟩:=z;rw[ea] at q;intro H2 p g1 g2 g3 g4 ⟨NI,w1,w2⟩;obtain⟨qQ,l2,su,i2,a2,k1,_⟩:=(show dZ H2 r t2 from g1).ex;have xh:p≠r:=cN w1 k1 (by intro z;cases z);have Ls:(aQ b).length<=1000:=by
    have:=eu _ _ _ _ _ _ _ ea;simp at this
    lia
   have hla:NI.length=(aQ b).length:=w2.length;refine#[_,Z,.inl #[Z,_,aO.of w1],_,Z,fB 2,λp3 Ut=>?_];have sM:=aT Ut (.tup [.str (sb u),.int 0]);refine#[p,_,Z,sM _ _ w1,by rw[ai];show _ < 2 ^ 24;lia,_,Z,?_];have Qn:eV (aX H2 p3 (.tup [.str (sb u),.int 0])) NI (aQ b):=eV.mono w2 λb xs z=>sM _ _ z;have keep:Ext r H2 (aX (aX H2 p3 (.tup [.str (sb u),.int 0])) p (.lst (NI.map V.ref++[.ref p3])))\/True:=.inr trivial;refine q _ p ?_ g2 ?_ (FH.free g4 xh) #[NI++[p3],?_,?_]
   ·exact dZ.lst (g1.same sM) g2 (sM _ _ w1) Qn (AA b)
   ·intro b' o' hb ho
    have NJ:b'≠p:=λz=>by rw[z,FH.free g4 xh] at ho;cases ho
    rw[au NJ];exact sM _ _ (g3 _ _ hb (FH _ _ hb ho))
   ·rw[ah,br];rfl
   rw[e3];have up :∀b xs,aX H2 p3 (.tup [.str (sb u),.int 0]) b=some (.tup xs)->aX (aX H2 p3 (.tup [.str (sb u),.int 0])) p (.lst (NI.map V.ref++[.ref p3])) b=some (.tup xs):=λb xs z=>by
    rw[au (cN z (sM _ _ w1) (by intro z;cases z))];exact z
   refine Paired.app (eV.mono Qn up) (.cons (up _ _ ?_) .nil);rw[ah,e1,e2];rfl
 rcases c2 with h | h
 ·have hu:sb u=sb (bw "not"):=congrArg sb (by simpa [bO] using h)
  exact di .no .no hu rfl (λ_=>rfl) (by rw[Iz,h];rfl)
 have hu:sb u=sb (bw "grow"):=congrArg sb (by simpa [bO] using h);have hn:bO ((.word u,x2)::t1) "not" = false:=by
  have hu':=FC hu;subst hu';rfl
 exact di .grow .grow hu rfl (λ_=>rfl) (by rw[Iz,hn,h];rfl)
theorem adf:gH P w K mg aS X k f fd ps (λ_ _ _ _=>False):=#[λ_ _ _ _ h=>h.elim,λ_ _ _ _ _ _ _ _ _ _ _ _ _ h=>h.elim]
def Qo (hk:6<=ka)
  (cE:aK aL 3 T.dc (so)) (x3:aK (gC P w) ka T.jB (tw 2 d)) :
  aK (gC P w) (ka+1) T.oy (tw 1 d):=by
 refine Y.oy.F.yC Fs λbx A outer s H vs Q E hr h=>?_;obtain⟨r,t,rfl,hR,hG,hL,q⟩:=h;refine#[_,(aj (aZ 2 Fs.nd (aJ Y.jB x3 (hr.mono (by lia)) (iW λ_ _ _ z=>z) (ae (aa 0) (ae (aa 1) ao)))) (aj (u9 PassesOwn.leaving (gD (eQ Y.dc Y.bg.cl cE (hr.mono (by lia)) aG (aa 0) (ae dB ao))) (aj (dC (DE (aa 2) (aJ Y.jB x3 (hr.mono (by lia)) (iW λ_ _ _ z=>z) (ae (aa 0) (ae (aa 1) ao))))) (aq (dC (qt (aa 2) (nP (ae dB (ae bL ao)))))))) (aq (aD (aa 2))))),?_];refine#[_,Z,_,Z,r,t,Z,hR,hG,hL,?_];rw[SV] at q;cases ea:AR 2 d (.basic 4 0) t with
 | error e=>rw[ea] at q;exact q
 | ok z=>
  obtain⟨a0,t0⟩:=z;rw[ea] at q;have q:Jw (AR 4 d a0 t0) r H Q E:=q;intro H1 p g1 g2 g3 g4 g5;have l0:(aQ a0).length+t0.length<=1000:=by
   have:=eu _ _ _ _ _ _ _ ea;simp at this
   lia
  refine#[λm σ Hc=>∃(acc:bD) (tc:bF),σ = [some (.ref r),some (.int (12 - (d:Nat))),some (.ref p)]/\dZ Hc r tc/\GT tc/\Ext r H Hc/\gK Hc p (aQ acc)/\m=tc.length/\(aQ acc).length+tc.length<=1000/\Jw (AR 4 d acc tc) r H Q E,#[_,a0,t0,Z,g1,g2,g3,g5,Z,l0,q],?_];rintro m σ Hc ⟨acc,tc,rfl,f1,f2,f3,⟨as,w1,w2⟩,rfl,f6,f7⟩;obtain⟨x,t1,rfl⟩:=f2.head;obtain⟨dx,l,asr,i,a,k1,_⟩:=f1.tok;have xh:p≠r:=cN w1 k1 (by intro z;cases z);refine#[_,Z,r,dx,_,Z,k1,mK,r,_,x,t1,Z,f1,?_];rw[vn f2 (s:="&") (c:=38) rfl rfl];have e4:=AR4 d acc (x::t1);refine#[λo H' xg mW=>#[_,Z,bE (λ_=>?_) (λz=>absurd rfl z)],λo=>#[_,Z,bE (λz=>absurd z (by simp)) (λ_=>?_)]]
  ·refine#[λσ' Uu=>∃m',m' < (x::t1).length/\_,λ_ _ z=>z,?_]
   have Jx:GT t1:=uj f2 o;have Uv:=mW _ _ xh w1;have Qn:eV H' as (aQ acc):=eV.mono w2 λb xs z=>mW _ _ (cN z k1 (by intro z;cases z)) z;have tN:t1.length<=1000:=by simp at f6;lia
   refine#[_,Z,.inl #[Z,_,aO.of Uv],_,Z,_,Z,r,t1,Z,xg,Jx,tN,?_];rw[o,if_pos rfl,yW,xS,(Us d acc (.basic 4 0) t1).1] at e4;rw[e4] at f7;cases eb:AR 2 d (.basic 4 0) t1 with
   | error e=>rw[eb] at f7;exact nV.on f7 (f3.trans mW)
   | ok z=>
    obtain⟨b,t2⟩:=z;rw[eb] at f7;have f7:Jw (AR 4 d (.both acc b) t2) r H Q E:=f7;intro H2 p2 j1 j2 j3 j4 ⟨su,u1,u2⟩;have hn:(aQ b).length+t2.length<=t1.length:=by
     have:=eu _ _ _ _ _ _ _ eb;simp at this
     lia
    have kE:t2.length < t1.length+1:=by lia
    have la:as.length=(aQ acc).length:=w2.length;have lb:su.length=(aQ b).length:=u2.length;have Ib:=j3 _ _ xh Uv;obtain⟨qQ,l2,ahq,i2,afg,k2,_⟩:=j1.ex;obtain⟨_,_,_,_,_,Hq,_⟩:=xg.ex;have NK:eV H2 as (aQ acc):=eV.mono Qn λb xs z=>j3 _ _ (cN z Hq (by intro z;cases z)) z;simp at f6;refine#[p,p2,_,_,Z,Z,Ib,u1,by rw[ai,ai];show _<=2 ^ 24;lia,?_];rw[<- br];have up1 :∀b xs,H2 b=some (.tup xs)->aX H2 p (.lst ((as++su).map V.ref)) b=some (.tup xs):=λb xs z=>by rw[au (cN z Ib (by intro z;cases z))];exact z
    have v2:eV (aX H2 p (.lst ((as++su).map V.ref))) (as++su) (aQ acc++aQ b):=Paired.app (eV.mono NK up1) (eV.mono u2 up1);refine#[_,Z,.inl #[Z,_,aO.of ah],fB 2,λp3 Ut=>?_];have sM:=aT Ut (.tup [.str "&",.int 0]);refine#[p,_,Z,sM _ _ ah,by rw[ai,ay];show _ < 2 ^ 24;lia,t2.length,kE,.both acc b,t2,Z,?_,j2,?_,#[(as++su)++[p3],?_,?_],Z,?_,f7]
    ·refine dZ.lst ((dZ.lst j1 j2 Ib NK (AA acc)).same sM) j2 (sM _ _ ah) (eV.mono v2 λb xs z=>sM _ _ z) ?_
     intro z;exact AA acc (List.append_eq_nil_iff.mp z).1
    ·intro b' o' hb ho
     have NJ:b'≠p:=λz=>by
      have zz:H p=none:=g4;rw[z,zz] at ho;cases ho
     rw[au NJ];refine sM _ _ ?_;rw[au NJ];exact j3 _ _ hb (mW _ _ hb (f3 _ _ hb ho))
    ·rw[ah];simp
    ·have Es :∀b xs,aX (aX H2 p (.lst ((as++su).map V.ref))) p3 (.tup [.str "&",.int 0]) b=some (.tup xs)->aX (aX (aX H2 p (.lst ((as++su).map V.ref))) p3 (.tup [.str "&",.int 0])) p (.lst ((as++su).map V.ref++[.ref p3])) b=some (.tup xs):=λb xs z=>by
      rw[au (cN z (sM _ _ ah) (by intro z;cases z))];exact z
     show eV _ _ (aQ acc++(aQ b++[.both]));rw[<- gm];refine Paired.app (eV.mono v2 λb xs z=>Es _ _ (sM _ _ z)) (.cons (Es _ _ ?_) .nil);rw[ah];rfl
    simp[aQ];lia
  rw[o,if_neg (by decide)] at e4;rw[e4] at f7;exact#[_,Z,f7 Hc p f1 f2 f3 g4 #[as,w1,w2]]
def Qp (hk:6<=ka)
  (cE:aK aL 3 T.dc (so)) (Hr:aK (gC P w) ka T.oy (tw 1 d)) :
  aK (gC P w) (ka+1) T.iD (tw 0 d):=by
 refine Y.iD.F.yC Fq λbx A outer s H vs Q E hr h=>?_;obtain⟨r,t,rfl,hR,hG,hL,q⟩:=h;refine#[_,(aj (aZ 2 Fq.nd (aJ Y.oy Hr (hr.mono (by lia)) (iW λ_ _ _ z=>z) (ae (aa 0) (ae (aa 1) ao)))) (aj (u9 PassesOwn.leaving (gD (eQ Y.dc Y.bg.cl cE (hr.mono (by lia)) aG (aa 0) (ae dB ao))) (aj (dC (DE (aa 2) (aJ Y.oy Hr (hr.mono (by lia)) (iW λ_ _ _ z=>z) (ae (aa 0) (ae (aa 1) ao))))) (aq (dC (qt (aa 2) (nP (ae dB (ae bL ao)))))))) (aq (aD (aa 2))))),?_];refine#[_,Z,_,Z,r,t,Z,hR,hG,hL,?_];rw[SU] at q;cases ea:AR 1 d (.basic 4 0) t with
 | error e=>rw[ea] at q;exact q
 | ok z=>
  obtain⟨a0,t0⟩:=z;rw[ea] at q;have q:Jw (AR 3 d a0 t0) r H Q E:=q;intro H1 p g1 g2 g3 g4 g5;have l0:(aQ a0).length+t0.length<=1000:=by
   have:=eu _ _ _ _ _ _ _ ea;simp at this
   lia
  refine#[λm σ Hc=>∃(acc:bD) (tc:bF),σ = [some (.ref r),some (.int (12 - (d:Nat))),some (.ref p)]/\dZ Hc r tc/\GT tc/\Ext r H Hc/\gK Hc p (aQ acc)/\m=tc.length/\(aQ acc).length+tc.length<=1000/\Jw (AR 3 d acc tc) r H Q E,#[_,a0,t0,Z,g1,g2,g3,g5,Z,l0,q],?_];rintro m σ Hc ⟨acc,tc,rfl,f1,f2,f3,⟨as,w1,w2⟩,rfl,f6,f7⟩;obtain⟨x,t1,rfl⟩:=f2.head;obtain⟨dx,l,asr,i,a,k1,_⟩:=f1.tok;have xh:p≠r:=cN w1 k1 (by intro z;cases z);refine#[_,Z,r,dx,_,Z,k1,mK,r,_,x,t1,Z,f1,?_];rw[vn f2 (s:="|") (c:=124) rfl rfl];have e4:=AR3 d acc (x::t1);refine#[λo H' xg mW=>#[_,Z,bE (λ_=>?_) (λz=>absurd rfl z)],λo=>#[_,Z,bE (λz=>absurd z (by simp)) (λ_=>?_)]]
  ·refine#[λσ' Uu=>∃m',m' < (x::t1).length/\_,λ_ _ z=>z,?_]
   have Jx:GT t1:=uj f2 o;have Uv:=mW _ _ xh w1;have Qn:eV H' as (aQ acc):=eV.mono w2 λb xs z=>mW _ _ (cN z k1 (by intro z;cases z)) z;have tN:t1.length<=1000:=by simp at f6;lia
   refine#[_,Z,.inl #[Z,_,aO.of Uv],_,Z,_,Z,r,t1,Z,xg,Jx,tN,?_];rw[o,if_pos rfl,yW,xS,(Us d acc (.basic 4 0) t1).2.1] at e4;rw[e4] at f7;cases eb:AR 1 d (.basic 4 0) t1 with
   | error e=>rw[eb] at f7;exact nV.on f7 (f3.trans mW)
   | ok z=>
    obtain⟨b,t2⟩:=z;rw[eb] at f7;have f7:Jw (AR 3 d (.either acc b) t2) r H Q E:=f7;intro H2 p2 j1 j2 j3 j4 ⟨su,u1,u2⟩;have hn:(aQ b).length+t2.length<=t1.length:=by
     have:=eu _ _ _ _ _ _ _ eb;simp at this
     lia
    have kE:t2.length < t1.length+1:=by lia
    have la:as.length=(aQ acc).length:=w2.length;have lb:su.length=(aQ b).length:=u2.length;have Ib:=j3 _ _ xh Uv;obtain⟨qQ,l2,ahq,i2,afg,k2,_⟩:=j1.ex;obtain⟨_,_,_,_,_,Hq,_⟩:=xg.ex;have NK:eV H2 as (aQ acc):=eV.mono Qn λb xs z=>j3 _ _ (cN z Hq (by intro z;cases z)) z;simp at f6;refine#[p,p2,_,_,Z,Z,Ib,u1,by rw[ai,ai];show _<=2 ^ 24;lia,?_];rw[<- br];have up1 :∀b xs,H2 b=some (.tup xs)->aX H2 p (.lst ((as++su).map V.ref)) b=some (.tup xs):=λb xs z=>by rw[au (cN z Ib (by intro z;cases z))];exact z
    have v2:eV (aX H2 p (.lst ((as++su).map V.ref))) (as++su) (aQ acc++aQ b):=Paired.app (eV.mono NK up1) (eV.mono u2 up1);refine#[_,Z,.inl #[Z,_,aO.of ah],fB 2,λp3 Ut=>?_];have sM:=aT Ut (.tup [.str "|",.int 0]);refine#[p,_,Z,sM _ _ ah,by rw[ai,ay];show _ < 2 ^ 24;lia,t2.length,kE,.either acc b,t2,Z,?_,j2,?_,#[(as++su)++[p3],?_,?_],Z,?_,f7]
    ·refine dZ.lst ((dZ.lst j1 j2 Ib NK (AA acc)).same sM) j2 (sM _ _ ah) (eV.mono v2 λb xs z=>sM _ _ z) ?_
     intro z;exact AA acc (List.append_eq_nil_iff.mp z).1
    ·intro b' o' hb ho
     have NJ:b'≠p:=λz=>by
      have zz:H p=none:=g4;rw[z,zz] at ho;cases ho
     rw[au NJ];refine sM _ _ ?_;rw[au NJ];exact j3 _ _ hb (mW _ _ hb (f3 _ _ hb ho))
    ·rw[ah];simp
    ·have Es :∀b xs,aX (aX H2 p (.lst ((as++su).map V.ref))) p3 (.tup [.str "|",.int 0]) b=some (.tup xs)->aX (aX (aX H2 p (.lst ((as++su).map V.ref))) p3 (.tup [.str "|",.int 0])) p (.lst ((as++su).map V.ref++[.ref p3])) b=some (.tup xs):=λb xs z=>by
      rw[au (cN z (sM _ _ ah) (by intro z;cases z))];exact z
     show eV _ _ (aQ acc++(aQ b++[.either]));rw[<- gm];refine Paired.app (eV.mono v2 λb xs z=>Es _ _ (sM _ _ z)) (.cons (Es _ _ ?_) .nil);rw[ah];rfl
    simp[aQ];lia
  rw[o,if_neg (by decide)] at e4;rw[e4] at f7;exact#[_,Z,f7 Hc p f1 f2 f3 g4 #[as,w1,w2]]
theorem NL (cy:aK aL 1 T.cJ (qC)) (gq:aK aL 2 T.fC (Gr))
  (cE:aK aL 3 T.dc (so)) (gv:gH P w K mg aS aL 1 T.xf T.Jr ["self","number","place"] (E6 T.xC))
  (cB:aK (gC P w) 4 T.cA (pL)) (lU:aK (gC P w) 5 T.lS (FE)) :
  ∀d:Nat,d<=12->aK (gC P w) (9+3 * d) T.iD (tw 0 d)/\aK (gC P w) (7+3 * d) T.jB (tw 2 d)
 | 0,hd=>by
  have u:=Qm (d:=0) (ka:=6) (spA:=λ_ _ _ _=>False) (spU:=λ_ _ _ _=>False) hd (.inl rfl) (aN _) cy gq cE gv cB lU adf adf;exact#[Qp (by lia) cE (Qo (by lia) cE u),u]
 | d+1,hd=>by
  obtain⟨a,u⟩:=NL cy gq cE gv cB lU d (by lia);have v:=Qm (d:=d+1) (ka:=9+3 * d) hd (.inr #[Z,Z]) (by lia) cy gq cE gv cB lU a (u.mono (by lia));refine#[?_,?_]
  ·exact(Qp (by lia) cE (Qo (by lia) cE v)).mono (by lia)
  exact v.mono (by lia)
inductive sv (vs:List V) (H:Hp) (Q:VK) (_:XK):Prop where
 | mk (x dx:Addr) (v0 v1 v2 v3:V) (_:vs=[.ref x,v0,v1,v2,v3]) (_:H x=some (.ins T.bI.C dx [])) (_:Q .cj (aX H x (.ins T.bI.C dx (yo v0 v1 v2 v3))))
def NM:wu aL 1 T.bI (sv):=by
 refine Y.bI.F.run Nl λbx A outer s H vs Q E hr h=>?_;obtain⟨x,dx,v0,v1,v2,v3,rfl,hx,q⟩:=h;refine#[_,(aj (eR (aa 0) (aa 1)) (aj (eR (aa 0) (aa 2)) (aj (eR (aa 0) (aa 3)) (aq (eR (aa 0) (aa 4)))))),?_];refine#[_,Z,_,Z,x,_,dx,_,Z,hx,Y.bI.cl,Y.dO,ag rfl,?_];refine#[_,Z,_,Z,x,_,dx,_,Z,ah,Y.bI.cl,Y.el,ag rfl,?_];refine#[_,Z,_,Z,x,_,dx,_,Z,ah,Y.bI.cl,Y.me,ag rfl,?_];refine#[_,Z,_,Z,x,_,dx,_,Z,ah,Y.bI.cl,Y.iE,ag rfl,?_];simp only[ij];exact q
inductive qR (vs:List V) (H:Hp) (Q:VK) (_:XK):Prop where
 | mk (x dx:Addr) (v0 v1 v2 v3:V) (_:vs=[.ref x,v0,v1,v2,v3]) (_:H x=some (.ins T.bP.C dx [])) (_:Q .cj (aX H x (.ins T.bP.C dx (m8 v0 v1 v2 v3))))
def Mq:wu aL 1 T.bP (qR):=by
 refine Y.bP.F.run Mf λbx A outer s H vs Q E hr h=>?_;obtain⟨x,dx,v0,v1,v2,v3,rfl,hx,q⟩:=h;refine#[_,(aj (eR (aa 0) (aa 1)) (aj (eR (aa 0) (aa 2)) (aj (eR (aa 0) (aa 3)) (aq (eR (aa 0) (aa 4)))))),?_];refine#[_,Z,_,Z,x,_,dx,_,Z,hx,Y.bP.cl,Y.jG,ag rfl,?_];refine#[_,Z,_,Z,x,_,dx,_,Z,ah,Y.bP.cl,Y.jk,ag rfl,?_];refine#[_,Z,_,Z,x,_,dx,_,Z,ah,Y.bP.cl,Y.nA,ag rfl,?_];refine#[_,Z,_,Z,x,_,dx,_,Z,ah,Y.bP.cl,Y.tm,ag rfl,?_];simp only[ij];exact q
def iQ (i:Nat):Str:=sb (mi.getD i [])
theorem ahr:iQ 0 = "hurt":=(eA "hurt").symm
theorem ahs:iQ 1 = "heal":=(eA "heal").symm
theorem act2:iQ 2 = "push":=(eA "push").symm
theorem aht:iQ 3 = "pull":=(eA "pull").symm
def Uw (g:GT t) (h:gS i t=.ok (n,r)):GT r:=by
 unfold gS at h;split at h
 ·exact FD g h
 split at h
 ·exact FD g h
 split at h
 ·split at h
  ·split at h
   ·cases h
    exact g.tail (by simp) (by simp)
   unfold cV at h;cases h
  unfold cV at h;cases h
 cases h;exact g
def Jy:dP.contains (sb u)=(fA.findIdx? λv=>v == u).isSome:=by
 simp only[dP,eA,jx,o6,ui,fA,cv,pX,List.findIdx?_cons,fE];rw[BEq.comm (a:=u),BEq.comm (a:=u),BEq.comm (a:=u),BEq.comm (a:=u),BEq.comm (a:=u)];cases bw "wall" == u <;> cases bw "floor" == u <;> cases bw "water" == u <;> cases bw "ice" == u <;> cases bw "fire" == u <;> rfl
def Cd:dP.map V.str=fA.map λv=>V.str (sb v):=by
 simp only[dP,fA,cv,pX,eA]
def vo (h:i < 6):iQ i = "set"↔i=4:=by
 match i,h with
 | 0,_ | 1,_ | 2,_ | 3,_ | 4,_ | 5,_=>simp only[iQ,eA,CT];decide
 | j+6,h=>lia
def qj (h:i < 6):iQ i = "blink"↔i=5:=by
 match i,h with
 | 0,_ | 1,_ | 2,_ | 3,_ | 4,_ | 5,_=>simp only[iQ,eA,CT];decide
 | j+6,h=>lia
inductive Lu (vs:List V) (H:Hp) (Q:VK) (E:XK):Prop where
 | mk (r:Addr) (i:Nat) (t:bF) (_:i < 6) (_:vs=[.ref r,.str (iQ i)]) (_:dZ H r t) (_:GT t) (_:match gS i t with | .ok (n,t')=>∀H',dZ H' r t'->GT t'->Ext r H H'->Q (.int (n:Nat)) H' | .error (n,pl)=>nV E r H n pl)
def Ux (cB:aK (gC P w) 4 T.cA (pL)) (iN:aK (gC P w) 4 T.dN (xB)) :
  aK (gC P w) 5 T.lR (Lu):=by
 refine Y.lR.F.yC Kn λbx A outer s H vs Q E hr h=>?_;obtain⟨r,i,t,hi,rfl,hR,hG,q⟩:=h;have hu:(rX (gC P w) P w K mg aS ["reader","act"] "read_amount" (ax yK) T.lR.f bx A outer s H E).A.units+1 < cLine:=by
  have z:=hr.units;show(A.deeper _).units+1 < cLine
  lia
 refine#[_,(aj (bG (dg (aa 1) dB) (aq (aD (Yx Y.fR (eQ Y.cA Y.bg.cl cB (hr.le rfl) (iW λ_ _ _ z=>z) (aa 0) (ae (mX Y.fR.m) ao))))) bp) (aj (bG (dg (aa 1) dB) (aq (aD bL)) bp) (aq (aD (eQ Y.dN Y.bg.cl iN (hr.le rfl) (iW λ_ _ _ z=>z) (aa 0) (ae bL (ae (Yv Y.DK hu (aa 1)) ao))))))),?_];obtain⟨x,tl,rfl⟩:=hG.head;obtain⟨dx,l,as,ii,a,h1,h2,ha,hT,hN,_⟩:=hR.tok;refine#[_,Z,Z,_,Z,bE (λc=>?_) (λc=>?_)]
 ·have hi4:i=4:=(vo hi).mp (V.str.inj (of_decide_eq_true c))
  subst hi4;refine#[_,Z,r,dx,_,Z,h1,i7,r,T.fR,dP,x,tl,Z,Y.fR.q _,hR,λil H' xg mW=>?_,λil=>?_]
  ·obtain⟨x1,x2⟩:=x
   obtain⟨u,rfl⟩ :∃u,x1=.word u:=by
    cases hG with
    | word=>exact#[_,Z]
    | @sign c p _ hc _=>
     exfalso;have z:dP.contains (sb [c])=true:=il;simp only[dP,eA,jx,o6,ui,fE] at z;simp[bw] at z
    | _=>exact absurd il (by simp[xc])
   have NH:GT tl:=hG.tail (by simp) (by simp);have FG:dP.contains (sb u)=true:=il;rw[Jy,iA] at FG;obtain⟨k,hk⟩:=FG;have e0:gS 4 ((.word u,x2)::tl)=.ok (k,tl):=by
    show(match fA.findIdx? (λv=>v == u) with
     | some g=>_
     | none=>_)=_
    rw[hk]
   rw[e0] at q;refine#[Z,Z,k,.str (sb u),?_,by show(sb u == sb u)=true;simp,λm z' hm hz'=>?_,q H' xg NH mW]
   ·obtain⟨wx,he,_⟩:=dv.mp hk
    have e:fA[k]=u:=by simpa using he
    show(dP.map V.str)[k]?=_;rw[Cd,aA,aw wx,e];rfl
   obtain⟨wx,_,iU⟩:=dv.mp hk;have z2:=iU m hm;have hz:(dP.map V.str)[m]?=some z':=hz';rw[Cd,aA,aw (by lia)] at hz;cases hz;show(sb _ == sb u)=false;rw[ui];simpa using z2
  have e0:gS 4 (x::tl)=.error (Ay x.1 2,x.2):=by
   obtain⟨x1,x2⟩:=x;cases x1 with
   | word u=>
    have z:dP.contains (sb u)=false:=il;rw[Jy] at z;cases hk:fA.findIdx? (λv=>v == u) with
    | some k=>rw[hk] at z;cases z
    | none=>
     show(match fA.findIdx? (λv=>v == u) with
      | some g=>_
      | none=>_)=_
     rw[hk];try rfl
   | _=>rfl
  rw[e0] at q;exact q
 have hi4:i≠4:=λz=>c (decide_eq_true (congrArg V.str ((vo hi).mpr z)));refine#[_,Z,Z,_,Z,bE (λc=>?_) (λc=>?_)]
 ·have hi5:i=5:=(qj hi).mp (V.str.inj (of_decide_eq_true c))
  subst hi5;exact q H hR hG (Ext.refl r H)
 have hi5:i≠5:=λz=>c (decide_eq_true (congrArg V.str ((qj hi).mpr z)));refine#[_,Z,r,dx,_,Z,h1,ve,_,Z,.inr (iQ i),.int ((if i<=1 then 99 else 5:Nat):Nat),Z,?_,r,1,if i<=1 then 99 else 5,x,tl,Z,hR,?_]
 ·match i,hi,hi4,hi5 with
  | 0,_,_,_=>rw[ahr];rfl
  | 1,_,_,_=>rw[ahs];rfl
  | 2,_,_,_=>rw[act2];rfl
  | 3,_,_,_=>rw[aht];rfl
  | j+4,h,h4,h5=>lia
 have e0:gS i (x::tl)=jm 1 (if i<=1 then 99 else 5) (x::tl):=by
  unfold gS;by_cases YI:i<=1
  ·rw[if_pos YI,if_pos YI]
  rw[if_neg YI,if_neg YI,if_pos (by lia)]
 rw[<- e0];cases ea:gS i (x::tl) with
 | error e=>rw[ea] at q;exact q
 | ok z=>
  obtain⟨n,t2⟩:=z;rw[ea] at q;exact λH' g1 g2=>q H' g1 (Uw hG ea) g2
def AB:List Str:=["hurt","heal","push","pull","set","blink"]
def Qq:AB.contains (sb u)=(mi.findIdx? λv=>v == u).isSome:=by
 simp only[AB,eA,jx,o6,ui,mi,cv,pX,List.findIdx?_cons,fE];rw[BEq.comm (a:=u),BEq.comm (a:=u),BEq.comm (a:=u),BEq.comm (a:=u),BEq.comm (a:=u),BEq.comm (a:=u)];cases bw "hurt" == u <;> cases bw "heal" == u <;> cases bw "push" == u <;> cases bw "pull" == u <;> cases bw "set" == u <;> cases bw "blink" == u <;> rfl
def Uy (hk:(mi.findIdx? λv=>v == u)=some i):i < 6/\sb u=iQ i:=by
 obtain⟨wx,he,_⟩:=dv.mp hk;have e:mi[i]=u:=by simpa using he
 refine#[by simpa [mi] using wx,?_];unfold iQ;rw[bY,aw wx,e];rfl
theorem gK.mono (h:gK H p l) (k :∀b o,(∀C dx fs,o≠.ins C dx fs)->H b=some o->H' b=some o):gK H' p l:=by
 obtain⟨as,w1,w2⟩:=h;exact#[as,k _ _ (λ_ _ _ z=>by cases z) w1,eV.mono w2 λb xs z=>k _ _ (λ_ _ _ z=>by cases z) z]
def gK.ext (h:gK H p l) (hr:dZ H r t) (e:Ext r H H'):gK H' p l:=by
 obtain⟨_,_,_,_,_,h1,_⟩:=hr.ex;exact h.mono λb o n z=>e _ _ (cN z h1 (by intro q;exact n _ _ _ q)) z
def du (H:Hp) (a:Addr) (s:cC):Prop:=∃(dx p:Addr) (wv:V),H a=some (.ins T.bI.C dx (yo (.str (iQ s.act)) (.int (s.n:Nat)) (.ref p) wv))/\gK H p (aQ s.area)/\
 match s.cond with
 | none=>wv=.cj
 | some c=>∃p',wv=.ref p'/\gK H p' (aQ c)
def Uz (res:Except gR (cC × bF)) (r:Addr) (H:Hp) (Q:VK) (E:XK):Prop:=match res with
 | .ok (st,t')=>∀H' a,dZ H' r t'->GT t'->Ext r H H'->H a=none->du H' a st->Q (.ref a) H'
 | .error (n,pl)=>nV E r H n pl
inductive Qr (vs:List V) (H:Hp) (Q:VK) (E:XK):Prop where
 | mk (r:Addr) (t:bF) (_:vs=[.ref r]) (_:dZ H r t) (_:GT t) (_:t.length<=1000) (_:Uz (ff t) r H Q E)
theorem jv (hx:H x=none) (iV:H dx=none) (cG:dx≠x) (o o':HO):bo H (aX (aX H dx o) x o'):=
 (aT iV o).trans (aT (by rw[au (Ne.symm cG)];exact hx) o')
theorem gK.same (h:gK H p l) (s:bo H H'):gK H' p l:=h.mono λb o _ z=>s b o z
def Z3 (cB:aK (gC P w) 4 T.cA (pL)) (cE:aK aL 3 T.dc (so))
  (yN:aK (gC P w) 5 T.lR (Lu)) (rn:wu aL 1 T.bI (sv))
  (kL:aK (gC P w) 45 T.iD (tw 0 12)) :
  aK (gC P w) 46 T.ox (Qr):=by
 refine Y.ox.F.yC pq λbx A outer s H vs Q E hr h=>?_;obtain⟨r,t,rfl,hR,hG,hL,q⟩:=h;refine#[_,(aj (aZ 1 pq.nd (eQ Y.cA Y.bg.cl cB (hr.le rfl) (iW λ_ _ _ z=>z) (aa 0) (ae (mX Y.Fy.m) ao))) (aj (aZ 2 pq.nd (aJ Y.lR yN (hr.le rfl) (iW λ_ _ _ z=>z) (ae (aa 0) (ae (aa 1) ao)))) (aj (dC (eQ Y.cA Y.bg.cl cB (hr.le rfl) (iW λ_ _ _ z=>z) (aa 0) (ae (nP (ae dB ao)) ao))) (aj (aZ 3 pq.nd (aJ Y.iD kL (hr.le rfl) (iW λ_ _ _ z=>z) (ae (aa 0) (ae bL ao)))) (aj (aZ 4 pq.nd Lk) (aj (bG (gD (eQ Y.dc Y.bg.cl cE (hr.le rfl) aG (aa 0) (ae dB ao))) (aq (aZ 4 pq.nd (aJ Y.iD kL (hr.le rfl) (iW λ_ _ _ z=>z) (ae (aa 0) (ae bL ao))))) bp) (aq (aD (vU Y.bI.ug Y.bI.b Y.bI.m rn (hr.le rfl) aG (ae (aa 1) (ae (aa 2) (ae (aa 3) (ae (aa 4) ao))))))))))))),?_];obtain⟨x,tl,rfl⟩:=hG.head;obtain⟨dx,l,as,ii,a,h1,h2,ha,hT,hN,_⟩:=hR.tok;refine#[_,Z,r,dx,_,Z,h1,i7,r,T.Fy,AB,x,tl,Z,Y.Fy.q _,hR,λil H1 UA FH=>?_,λil=>?_]
 ·obtain⟨x1,x2⟩:=x
  obtain⟨u,rfl⟩ :∃u,x1=.word u:=by
   cases hG with
   | word=>exact#[_,Z]
   | @sign c p _ hc _=>
    exfalso;have z:AB.contains (sb [c])=true:=il;simp only[AB,eA,jx,o6,ui,fE] at z;simp[bw] at z
   | _=>exact absurd il (by simp[xc])
  have NH:GT tl:=hG.tail (by simp) (by simp);have hLt:tl.length<=1000:=by simp at hL;lia
  have FG:AB.contains (sb u)=true:=il;rw[Qq,iA] at FG;obtain⟨i,hk⟩:=FG;obtain⟨hi,hu⟩:=Uy hk;have q:Uz (match gS i tl with
    | .error e=>.error e
    | .ok (n,s)=>if bO s "on" = false then cV 2 s else match AR 0 12 (.basic 4 0) (s.drop 1) with
     | .error e=>.error e
     | .ok (a,u)=>if bO u "when" = false then .ok (#[i,n,a,none],u) else match AR 0 12 (.basic 4 0) (u.drop 1) with
      | .error e=>.error e
      | .ok (c,v)=>.ok (#[i,n,a,some c],v)) r H Q E:=by
   unfold ff at q;dsimp only at q;rw[hk] at q;simp only[pZ] at q;exact q
  refine#[_,Z,_,Z,r,i,tl,hi,congrArg (λz=>[V.ref r,V.str z]) hu,UA,NH,?_];cases ea:gS i tl with
  | error e=>rw[ea] at q;exact nV.on q FH
  | ok z=>
   obtain⟨n,t2⟩:=z;rw[ea] at q;have q:Uz (if bO t2 "on" = false then cV 2 t2 else match AR 0 12 (.basic 4 0) (t2.drop 1) with
     | .error e=>.error e
     | .ok (a,u)=>if bO u "when" = false then .ok (#[i,n,a,none],u) else match AR 0 12 (.basic 4 0) (u.drop 1) with
      | .error e=>.error e
      | .ok (c,v)=>.ok (#[i,n,a,some c],v)) r H Q E:=q
   intro H2 hR2 hG2 hE2;have l2:=zk ea;obtain⟨y,t3,rfl⟩:=hG2.head;obtain⟨qQ,l2',su,i2,a2,k2,_⟩:=hR2.tok;refine#[_,Z,r,qQ,_,Z,k2,i7,fB 1,λp2 FF=>?_];have sN:=aT FF (.tup [.str "on"]);refine#[r,p2,["on"],y,t3,Z,gN.of ah,hR2.same sN,?_];have eN:xc y.1 ["on"]=bO (y::t3) "on":=by rw[Ql];exact BF hG2 "on" (by decide)
   have Ur:Ext r H (aX H2 p2 (.tup [.str "on"])):=(FH.trans hE2).trans (Ext.of sN);rw[eN];refine#[λo H3 hR3 YH=>?_,λo=>?_]
   ·rw[o,if_neg (by simp),yW,xS] at q
    have hG3:GT t3:=Ho hG2 o;have eE3:=Ur.trans YH;simp at l2;refine#[_,Z,r,t3,Z,hR3,hG3,by lia,?_];cases eb:AR 0 12 (.basic 4 0) t3 with
    | error e=>rw[eb] at q;exact nV.on q eE3
    | ok z=>
     obtain⟨a0,t4⟩:=z;rw[eb] at q;have q:Uz (if bO t4 "when" = false then .ok (⟨i,n,a0,none⟩,t4) else match AR 0 12 (.basic 4 0) (t4.drop 1) with
      | .error e=>.error e
      | .ok (c,v)=>.ok (#[i,n,a0,some c],v)) r H Q E:=q
     intro H4 p g1 g2 g3 g4 g5;have eE4:=eE3.trans g3;have l4:=zR eb;simp[Sp.less] at l4;have di :∀(wv:V) (cond:Option bD) (H6:Hp) (t6:bF),dZ H6 r t6->GT t6->Ext r H H6->gK H6 p (aQ a0)->(match cond with
       | none=>wv=.cj
       | some c=>∃p',wv=.ref p'/\gK H6 p' (aQ c))->Uz (.ok (#[i,n,a0,cond],t6)) r H Q E->
       ql (HU T.bI.C (sv) E0 (eM (bR 1) (eM (bR 2) (eM (bR 3) (eM (bR 4) lO))))) { nx:=λ_ H'=>Q .cj H',rt:=Q } [some (.ref r),some (.str (sb u)),some (.int (n:Nat)),some (.ref p),some wv] H6:=by
      intro wv cond H6 t6 f1 f2 f3 f4 f5 f6;refine#[_,Z,_,Z,_,Z,_,Z,λx dx hx iV cG=>?_];refine#[x,dx,_,_,_,_,Z,ah,Z,?_];rw[ij,hu];have sS:=jv hx iV cG (.own x) (.ins T.bI.C dx (yo (.str (iQ i)) (.int (n:Nat)) (.ref p) wv));obtain⟨_,_,_,_,_,kr,_⟩:=f1.ex;have hxr:x≠r:=λz=>by rw[z,kr] at hx;cases hx
      refine f6 _ x (f1.same sS) f2 (f3.trans (Ext.of sS)) (f3.free hx hxr) #[dx,p,wv,ah,f4.same sS,?_];cases cond with
      | none=>exact f5
      | some c=>
       obtain⟨p',e1,e2⟩:=f5;exact#[p',e1,e2.same sS]
     obtain⟨x5,t5,rfl⟩:=g2.head;obtain⟨dx4,l4',as4,i4,a4,k4,_⟩:=g1.tok;refine#[_,Z,r,dx4,_,Z,k4,mK,r,_,x5,t5,Z,g1,?_];rw[BF g2 "when" (by decide)];refine#[λo H5 hR5 hE5=>#[_,Z,bE (λ_=>?_) (λz=>absurd rfl z)],λo=>#[_,Z,bE (λz=>absurd z (by simp)) (λ_=>?_)]]
     ·rw[o,if_neg (by simp),yW,xS] at q
      have hG5:GT t5:=Ho g2 o;have eE5:=eE4.trans hE5;have g5':=g5.ext g1 hE5;refine#[_,Z,r,t5,Z,hR5,hG5,by simp at l4;lia,?_];cases ec:AR 0 12 (.basic 4 0) t5 with
      | error e=>rw[ec] at q;exact nV.on q eE5
      | ok z=>
       obtain⟨c0,t6⟩:=z;rw[ec] at q;intro H6 p' j1 j2 j3 j4 j5;exact di (.ref p') (some c0) H6 t6 j1 j2 (eE5.trans j3) (g5'.ext hR5 j3) #[p',Z,j5] q
     rw[o,if_pos rfl] at q;exact di .cj none H4 _ g1 g2 eE4 g5 rfl q
   rw[o,if_pos rfl,Az] at q;exact nV.on q Ur
 have e0:ff (x::tl)=.error (Ay x.1 2,x.2):=by
  obtain⟨x1,x2⟩:=x;cases x1 with
  | word u=>
   have z:AB.contains (sb u)=false:=il;rw[Qq] at z;cases hk:mi.findIdx? (λv=>v == u) with
   | some k=>rw[hk] at z;cases z
   | none=>
    unfold ff;dsimp only;rw[hk];rfl
  | _=>rfl
 rw[e0] at q;exact q
def vi (b:List Nat):List V:=b.map λc=>V.int (c:Nat)
theorem iz (b:List Nat):(vi b).length=b.length:=ai _
theorem qD {b:List Nat} {i c:Nat} (h:b[i]?=some c):w8 (vi b) (i:Nat)=some (.int (c:Nat)):=b8 (j:=i) (by unfold vi;rw[aA,h];rfl)
def inR (lo hi c:Nat):Bool:=decide (lo<=c)&&decide (c<=hi)
def WA {b:List Nat} {f:Nat->Bool} {j c:Nat} (h:b[j]?=some c) (hc:f c=true):j+((b.drop j).takeWhile f).length=(j+1)+((b.drop (j+1)).takeWhile f).length:=by
 obtain⟨hj,e⟩:=az.mp h;rw[ma hj,ja,e,if_pos hc,aV]
 lia
def WB {b:List Nat} {f:Nat->Bool} {j c:Nat} (h:b[j]?=some c) (hc:f c=false):j+((b.drop j).takeWhile f).length=j:=by
 obtain⟨hj,e⟩:=az.mp h;rw[ma hj,ja,e,if_neg (by rw[hc];simp)];rfl
def WC {b:List Nat} {f:Nat->Bool} {j:Nat} (h:b.length<=j):j+((b.drop j).takeWhile f).length=j:=by
 rw[List.drop_eq_nil_of_le h];rfl
inductive UB (vs:List V) (H:Hp) (Q:VK) (_:XK):Prop where
 | mk (p:Addr) (b:List Nat) (at' lo hi:Nat) (_:vs=[.ref p,.int (at':Nat),.int (lo:Nat),.int (hi:Nat)]) (_:H p=some (.lst (vi b))) (_:at'<=b.length) (_:Q (.int ((at'+((b.drop at').takeWhile (inR lo hi)).length:Nat):Nat)) H)
def adj:aK aL 1 T.sk (UB):=by
 refine Y.sk.F.run DH λbx A outer s H vs Q E hr h=>?_;obtain⟨p,b,at',lo,hi,rfl,hp,Qs,q⟩:=h;refine#[_,(aj (aZ 4 DH.nd (aa 1)) (aj (u9 PassesOwn.never (qK (w_and (HQ (aa 4) (ir Y.iu (aa 0))) (vR (Je (aa 2) (bU (aa 0) (aa 4)) (aa 3))))) (aq (Fb 4 DH.nd bL))) (aq (aD (aa 4))))),?_];refine#[_,Z,?_];refine#[λm σ Hc=>∃j:Nat,σ = [some (.ref p),some (.int (at':Nat)),some (.int (lo:Nat)),some (.int (hi:Nat)),some (.int (j:Nat))]/\Hc=H/\j<=b.length/\m=b.length - j/\j+((b.drop j).takeWhile (inR lo hi)).length=at'+((b.drop at').takeWhile (inR lo hi)).length,#[_,at',Z,Z,Qs,Z,Z],?_];rintro m σ Hc ⟨j,rfl,rfl,hj,rfl,e⟩;refine#[_,Z,_,Z,p,vi b,Z,.inl (aO.of hp),_,_,Z,Z,_,Z,bE (λc=>?_) (λc=>?_)]
 ·rw[iz] at c
  have kE:j < b.length:=by have:=of_decide_eq_true c;lia
  have hb:b[j]?=some b[j]:=aw kE;refine#[_,Z,_,Z,_,Z,p,vi b,_,_,Z,Z,aO.of hp,qD hb,_,_,Z,Z,_,Z,?_];have stop:inR lo hi b[j]=false->(Q (.int ((j:Nat):Int)) Hc):=λz=>by
   rw[WB hb z] at e;rw[e];exact q
  refine bE (λc1=>?_) (λc1=>?_)
  ·refine#[_,Z,_,_,Z,Z,_,Z,bE (λc2=>?_) (λc2=>?_)]
   ·have z:inR lo hi b[j]=true:=by
     unfold inR;have a1:=of_decide_eq_true c1;have a2:=of_decide_eq_true c2;simp
     lia
    refine#[λσ' Uu=>∃m',m' < b.length - j/\_,λ_ _ z=>z,?_];rw[WA hb z] at e;exact#[_,Z,_,_,Z,Z,_,by lia,j+1,Z,Z,by lia,Z,e]
   refine#[_,Z,stop ?_];unfold inR;have a2:¬ ((b[j]:Nat):Int)<=(hi:Nat):=λz=>c2 (decide_eq_true z);simp
   lia
  have a1:¬ ((lo:Nat):Int)<=(b[j]:Nat):=λz=>c1 (decide_eq_true z);refine#[_,Z,bE (λz=>absurd z (by simp)) (λ_=>#[_,Z,stop ?_])];unfold inR;simp
  lia
 rw[iz] at c;have NN:b.length<=j:=by
  have:¬ ((j:Nat):Int) < (b.length:Nat):=λz=>c (decide_eq_true z)
  lia
 rw[WC NN] at e;refine bE (λz=>absurd z (by simp)) (λ_=>#[_,Z,?_]);rw[e];exact q
def xD {σ : L2.St} {H:Hp} {A B:Hp->Prop} (h:A H):HL σ H (λb H3=>if b=true then A H3 else B H3):=by
 unfold HL;exact cF h
def WD (u:List Nat):Txt.join ("" : Str) (u.map λc=>(#[[c].toArray]:Str))=sb u:=by
 rw[show Txt.join ("" : Str) (u.map λc=>(#[[c].toArray]:Str))=Str.join ("" : Str) (u.map λc=>(#[[c].toArray]:Str)) from PySem.StrLaws.glued_eq_join _ _];have app :∀a b:List Nat,sb a++sb b=sb (a++b):=λa b=>by
  show Str.mk _=Str.mk _;simp;rfl
 induction u with
 | nil=>rfl
 | cons c r ih=>
  cases r with
  | nil=>rfl
  | cons d r'=>
   rw[cv,cv];rw[cv] at ih;rw[Str.join,ih];show sb [c]++sb []++sb (d::r')=_;rw[app,app];rfl;intro z;cases z
def Sg (h:da c=true):w8 (Str.ofString "abcdefghijklmnopqrstuvwxyz").cps.toList ((c:Nat) - 97)=some c:=by
 unfold da at h;simp only[aB,decide_eq_true_eq] at h;obtain⟨k,rfl⟩ :∃k,c=97+k:=#[c - 97,by lia]
 have hk:k < 26:=by lia
 rw[show(((97+k:Nat):Int) - 97)=((k:Nat):Int) from by lia];refine b8 (j:=k) ?_;have :∀j:Fin 26,(Str.ofString "abcdefghijklmnopqrstuvwxyz").cps.toList[j.1]?=some (97+j.1):=by decide
 exact this #[k,hk]
inductive Qt (vs:List V) (H:Hp) (Q:VK) (_:XK):Prop where
 | mk (p:Addr) (u:List Nat) (_:vs=[.ref p]) (_:H p=some (.lst (vi u))) (_:(∀c∈u,da c=true)) (_:u.length<=1000) (_ :∀H',bo H H'->Q (.str (sb u)) H')
def Z4:aK aL 1 T.vh (Qt):=by
 refine Y.vh.F.run DI λbx A outer s H vs Q E hr h=>?_;obtain⟨p,u,rfl,hp,hu,hl,q⟩:=h;refine#[_,(aq (aD (Ub dB (lP [("byte",1)] rfl DI.nd (fo (aa 0)) (dJ rfl) (λ_ _ _ _ _=>(gu 1 DI.nd)) (λ_ _ _ _ _=>gO) (λ_ _ _ _ _=>(aeS (ahd Y.Uj) (kI (aa 1) (df Y.CQ)))))))),?_];refine#[#[_,Z],_,Z,p,Z,#[_,aO.of hp],λD hD=>?_];have ne:p≠D:=aI hp hD;refine qX (xs:=vi u) (λi H'=>H'=aX H D (.lst ((u.take i).map λc=>V.str #[[c].toArray]))) rfl (λi H' _ e=>by rw[e];exact aO.of (by rw[au ne];exact hp)) (λi x H' hx e=>?_) (λH' e=>?_)
 ·subst e
  unfold vi at hx;rw[aA] at hx;cases hb:u[i]? with
  | none=>rw[hb] at hx;cases hx
  | some c=>
   rw[hb] at hx;cases hx;have hc:=hu c (aP hb);refine#[Z,xD ?_];refine#[_,Z,_,_,Z,Z,_,_,c,Z,Z,fB 26,Sg hc,_,ah,?_,?_]
   ·rw[ai,bJ];show _ < 2 ^ 24;lia
   rw[ij,bW,hb,br];rfl
 subst e;refine#[_,D,u.map λc=>#[[c].toArray],Z,Z,.inl (aO.of ?_),?_,?_]
 ·rw[ah,iz,cq,bB];rfl
 ·rw[bB,ai]
  have:(u.map ((λx:Str=>x.length) ∘ λc=>(⟨[c].toArray⟩:Str))).sum=u.length:=by
   clear hp hu hl q ne
   induction u with
   | nil=>rfl
   | cons c r ih=>rw[cv,Ez,ih];simp[Str.length];lia
  rw[this];rw[show(Str.ofString "").length=0 from rfl,Nat.mul_zero]
  lia
 rw[WD];exact q _ (aT hD _)
inductive UC (vs:List V) (H:Hp) (Q:VK) (_:XK):Prop where
 | mk (p:Addr) (u:List Nat) (_:vs=[.ref p]) (_:H p=some (.lst (vi u))) (_:(∀c∈u,dS c=true)) (_:Q (.int (jy u:Nat)) H)
def NO {u:List Nat} {i c:Nat} (h:u[i]?=some c):jy (u.take (i+1))=10 * jy (u.take i)+(c - 48):=by
 unfold jy;rw[bW,h,gZ];rfl
def adk:aK aL 1 T.rh (UC):=by
 refine Y.rh.F.run wj λbx A outer s H vs Q E hr h=>?_;obtain⟨p,u,rfl,hp,hu,q⟩:=h;refine#[_,(aj (aZ 1 wj.nd bL) (aj (kJ PassesOwn.never rfl (fo (aa 0)) (gu 2 wj.nd) (aq (aZ 1 wj.nd (kI (iX (mT bL (aa 1)) (aa 2)) (df Y.Er))))) (aq (aD (aa 1))))),?_];refine#[_,Z,p,Z,#[_,aO.of hp],?_];refine jD (xs:=vi u) (λi σ H'=>H'=H/\∃z,σ = [some (.ref p),some (.int (jy (u.take i):Nat)),z]) #[Z,none,Z] (λi σ H' _ e=>by rw[e.1];exact aO.of hp) (λi x σ H' hx e=>?_) (λσ H' e=>?_)
 ·obtain⟨rfl,z,rfl⟩:=e
  unfold vi at hx;rw[aA] at hx;cases hb:u[i]? with
  | none=>rw[hb] at hx;cases hx
  | some c=>
   rw[hb] at hx;cases hx;have hc:=hu c (aP hb);unfold dS at hc;simp only[aB,decide_eq_true_eq] at hc;refine#[_,Z,_,_,Z,Z,.inl (by lia),_,Z,_,_,Z,Z,_,_,Z,Z,Z,some (.int (c:Nat)),?_];rw[NO hb];have e:(10 * ((jy (u.take i):Nat):Int)+((c:Nat):Int) - 48)=((10 * jy (u.take i)+(c - 48):Nat):Int):=by lia
   show [some (V.ref p),some (V.int (10 * ((jy (u.take i):Nat):Int)+((c:Nat):Int) - 48)),some (V.int (c:Nat))]=_;rw[e]
 obtain⟨rfl,z,rfl⟩:=e;rw[iz,cq];exact#[_,Z,q]
theorem Qu :∀l:List Nat,l.take (l.takeWhile f).length=l.takeWhile f
 | []=>rfl
 | c::r=>by
  rw[ja];split
  ·rw[aV,List.take_succ_cons,Qu r]
  rfl
def UD {f:Nat->Bool} {b:List Nat} {i:Nat} (h:i<=b.length):i+((b.drop i).takeWhile f).length<=b.length:=by
 have:=lK (p:=f) (b.drop i);rw[dk] at this
 lia
def UE {f:Nat->Bool} {b:List Nat} {i:Nat} (h:i<=b.length):pd (vi b) (some (i:Nat)) (some ((i+((b.drop i).takeWhile f).length:Nat):Nat))=vi ((b.drop i).takeWhile f):=by
 have:=UD (f:=f) h;unfold pd;rw[HT.xq,HT.xq,iz,jP h,jP this,tP];unfold vi;rw[<- lX,<- lY,Qu]
theorem Jz {f:Nat->Bool} :∀{l:List Nat} {c:Nat},c∈l.takeWhile f->f c=true
 | [],_,h=>by cases h
 | d::r,c,h=>by
  rw[ja] at h;split at h
  ·rcases bS.mp h with rfl | h
   ·assumption
   exact Jz h
  cases h
abbrev Gs:List (Key × V):=[(.inl 38,(.str "&")),(.inl 40,(.str "(")),(.inl 41,(.str ")")),(.inl 59,(.str ";")),(.inl 124,(.str "|"))]
def Lv (c:Nat):qp Gs (.inl (c:Int))=if gk c=true then some (.str (sb [c])) else none:=by
 by_cases h1:c=38
 ·subst h1;rfl
 by_cases h2:c=40
 ·subst h2;rfl
 by_cases h3:c=41
 ·subst h3;rfl
 by_cases h4:c=59
 ·subst h4;rfl
 by_cases h5:c=124
 ·subst h5;rfl
 have hs:gk c=false:=by
  unfold gk;simp
  lia
 rw[hs,if_neg (by simp)];have ne :∀k:Int,(k=(c:Int))->k=38\/k=40\/k=41\/k=59\/k=124->False:=λk e h=>by lia
 have d :∀k:Int,(k=38\/k=40\/k=41\/k=59\/k=124)->decide ((.inl k:Key)=.inl (c:Int))=false:=λk h=>decide_eq_false λz=>ne k (Sum.inl.inj z) h;unfold qp Gs;simp only[jM,d 38 (by lia),d 40 (by lia),d 41 (by lia),d 59 (by lia),d 124 (by lia),List.find?_nil,Option.map_none]
def Sh {p c:Nat} {r:List Nat} (h:gk c=true):dq p (c::r)=(.sign c,p+1):=by
 have h1:da c=false:=by
  cases e:da c with
  | false=>rfl
  | true=>rw[Cc e] at h;cases h
 have h2:dS c=false:=by
  unfold gk at h;unfold dS;simp only[oh,beq_iff_eq] at h;simp
  lia
 unfold dq;dsimp only;rw[h1,h2,h];rfl
def UG {f:Nat->Bool} {b:List Nat} {i c:Nat} (h:b[i]?=some c):(0 < ((b.drop i).takeWhile f).length)=(f c=true):=by
 obtain⟨hj,e⟩:=az.mp h;rw[ma hj,ja,e];cases f c <;> simp
def vp {b:List Nat} {i c:Nat} (h:b[i]?=some c):b.drop i=c::b.drop (i+1):=by
 obtain⟨hj,e⟩:=az.mp h;rw[ma hj,e]
theorem Si:inR 97 122=da:=rfl
theorem UH:inR 48 57=dS:=rfl
def ahu (H:Hp) (a:Addr) (x:fK) (p bh:Nat):Prop:=∃dx,H a=some (.ins T.bP.C dx (m8 (.int (yM x)) (Ia x) (.int (p:Nat)) (.int (bh:Nat))))
inductive NP (vs:List V) (H:Hp) (Q:VK) (_:XK):Prop where
 | mk (p:Addr) (b:List Nat) (i c:Nat) (_:vs=[.ref p,.int (i:Nat)]) (_:H p=some (.lst (vi b))) (_:b[i]?=some c) (_:b.length<=1000) (_ :∀H' a,bo H H'->H a=none->ahu H' a (dq i (b.drop i)).1 i (dq i (b.drop i)).2->Q (.ref a) H')
def WE (jH:wu aL 1 T.bP (qR)) (BG:aK aL 1 T.sk (UB))
  (FI:aK aL 1 T.vh (Qt)) (Ce:aK aL 1 T.rh (UC)) :
  aK aL 3 T.qA (NP):=by
 refine Y.qA.F.run B7 λbx A outer s H vs Q E hr h=>?_;obtain⟨p,b,i,c,rfl,hp,hb,hl,q⟩:=h;have hu:(rX aL P w K mg aS ["text","at","behind"] "token_at" (ax DG) T.qA.f bx A outer s H E).D9.A.units+1 < cLine:=by
  have z:=hr.units;show(A.deeper _).units+1 < cLine
  lia
 refine#[_,(aj (bG (ae2 Y.Gq hu (bU (aa 0) (aa 1))) (aq (aD (vU Y.bP.ug Y.bP.b Y.bP.m jH (hr.le rfl) aG (ae (df Y.Jv) (ae (Yv Y.Gq hu (bU (aa 0) (aa 1))) (ae (aa 1) (ae (iX (aa 1) bL) ao))))))) bp) (aj (aZ 2 B7.nd (aJ Y.sk BG (hr.le rfl) aG (ae (aa 0) (ae (aa 1) (ae (df Y.CQ) (ae (df Y.Mj) ao)))))) (aj (bG (Kh (aa 2) (aa 1)) (aq (aD (vU Y.bP.ug Y.bP.b Y.bP.m jH (hr.le rfl) aG (ae (df Y.Jv) (ae (aJ Y.vh FI (hr.le rfl) aG (ae (zu (aa 0) (nQ (aa 1)) (nQ (aa 2))) ao)) (ae (aa 1) (ae (aa 2) ao))))))) bp) (aj (aZ 2 B7.nd (aJ Y.sk BG (hr.le rfl) aG (ae (aa 0) (ae (aa 1) (ae (df Y.Er) (ae (df Y.NB) ao)))))) (aj (bG (acD (aa 1) (aa 2) (iX (aa 1) (df Y.Ml))) (aq (aD (vU Y.bP.ug Y.bP.b Y.bP.m jH (hr.le rfl) aG (ae (df Y.NA) (ae (aJ Y.rh Ce (hr.le rfl) aG (ae (zu (aa 0) (nQ (aa 1)) (nQ (aa 2))) ao)) (ae (aa 1) (ae (aa 2) ao))))))) bp) (aq (aD (vU Y.bP.ug Y.bP.b Y.bP.m jH (hr.le rfl) aG (ae (df Y.Kt) (ae dB (ae (aa 1) (ae (iX (aa 1) bL) ao)))))))))))),?_];have hi:i < b.length:=(az.mp hb).1;have mk :∀(k:Int) (tv:V) (bh:Nat) (H1:Hp),bo H H1->yM (dq i (b.drop i)).1=k->Ia (dq i (b.drop i)).1=tv->(dq i (b.drop i)).2=bh->∀x dx,H1 x=none->H1 dx=none->dx≠x->
   qR [.ref x,.int k,tv,.int (i:Nat),.int (bh:Nat)] (aX (aX H1 dx (.own x)) x (.ins T.bP.C dx [])) (λv H2=>v=.cj/\Q (.ref x) H2) E0:=by
  intro k tv bh H1 s1 e1 e2 e3 x dx hx iV cG;refine#[x,dx,_,_,_,_,Z,ah,Z,?_];rw[ij];have sS:=jv hx iV cG (.own x) (.ins T.bP.C dx (m8 (.int k) tv (.int (i:Nat)) (.int (bh:Nat))));refine q _ x (s1.trans sS) (s1.free hx) #[dx,?_];rw[e1,e2,e3];exact ah
 refine#[_,Z,_,Z,p,vi b,_,_,Z,Z,aO.of hp,qD hb,.inl (c:Nat),Z,_,Z,?_];rw[show qp Gs (.inl (c:Int))=_ from Lv c];cases hs:gk c with
 | true=>
  have et:dq i (b.drop i)=(.sign c,i+1):=by rw[vp hb];exact Sh hs
  refine cF ?_;refine#[_,Z,_,Z,p,vi b,_,_,Z,Z,aO.of hp,qD hb,.inl (c:Nat),.str (sb [c]),Z,?_,_,Z,_,Z,_,_,Z,Z,?_]
  ·rw[show qp Gs (.inl (c:Int))=_ from Lv c,hs];rfl
  exact mk 1 _ (i+1) H (λ_ _ z=>z) (by rw[et];rfl) (by rw[et];rfl) (by rw[et])
 | false=>
  refine cH ?_;refine#[_,Z,_,Z,p,b,i,97,122,Z,hp,by lia,?_];rw[Si];refine#[_,Z,_,Z,_,_,Z,Z,_,Z,?_];have tl:0 < ((b.drop i).takeWhile da).length↔da c=true:=by rw[UG hb]
  refine bE (λz=>?_) (λz=>?_)
  ·have hz:=of_decide_eq_true z
   have hc:da c=true:=tl.mp (by lia);have et:dq i (b.drop i)=(.word ((b.drop i).takeWhile da),i+((b.drop i).takeWhile da).length):=by
    rw[vp hb];unfold dq;dsimp only;rw[if_pos hc]
   refine#[_,Z,_,Z,_,Z,_,Z,_,Z,p,vi b,Z,aO.of hp,λp2 FF=>?_];refine#[p2,(b.drop i).takeWhile da,Z,?_,λc hc=>Jz hc,?_,λH' s'=>?_]
   ·rw[ah,UE (by lia)]
   ·have:=UD (f:=da) (b:=b) (i:=i) (by lia)
    lia
   refine#[_,Z,_,Z,?_];exact mk 1 _ _ H' ((aT FF _).trans s') (by rw[et];rfl) (by rw[et];rfl) (by rw[et])
  have hz:¬ ((i:Nat):Int) < ((i+((b.drop i).takeWhile da).length:Nat):Nat):=λy=>z (decide_eq_true y);have hc:da c=false:=by
   cases e:da c with
   | false=>rfl
   | true=>exact absurd (tl.mpr e) (by lia)
  refine#[_,Z,_,Z,p,b,i,48,57,Z,hp,by lia,?_];rw[UH];have td:0 < ((b.drop i).takeWhile dS).length↔dS c=true:=by rw[UG hb]
  have bad:(dS c=true->3 < ((b.drop i).takeWhile dS).length)->ql (HU T.bP.C (qR) E0 (eM (tC (.int 3)) (eM (tC (.str "")) (eM (bR 1) (eM (gI (oQ λi j=>.int (i+j)) (bR 1) (tC (.int 1))) lO))))) { nx:=λ_ H'=>Q .cj H',rt:=Q } [some (.ref p),some (.int (i:Nat)),some (.int ((i+((b.drop i).takeWhile dS).length:Nat):Nat))] H:=by
   intro adl;have et:dq i (b.drop i)=(.bad,i+1):=by
    rw[vp hb] at adl ⊢;unfold dq;dsimp only;rw[hc,if_neg (by simp),hs];by_cases hd:dS c=true
    ·rw[if_pos hd,if_pos (adl hd)]
    rw[if_neg hd,if_neg (by simp)]
   refine#[_,Z,_,Z,_,_,Z,Z,?_];exact mk 3 _ (i+1) H (λ_ _ z=>z) (by rw[et];rfl) (by rw[et];rfl) (by rw[et])
  refine#[_,Z,_,Z,_,_,Z,Z,_,Z,bE (λz1=>?_) (λz1=>?_)]
  ·have hz1:=of_decide_eq_true z1
   have hd:dS c=true:=td.mp (by lia);refine#[_,Z,_,_,Z,Z,_,_,Z,Z,_,Z,bE (λz2=>?_) (λz2=>?_)]
   ·have hz2:=of_decide_eq_true z2
    have et:dq i (b.drop i)=(.num (jy ((b.drop i).takeWhile dS)),i+((b.drop i).takeWhile dS).length):=by
     have h3:¬ 3 < ((b.drop i).takeWhile dS).length:=by lia
     rw[vp hb] at h3 ⊢;unfold dq;dsimp only;rw[hc,if_neg (by simp),if_pos hd,if_neg h3]
    refine#[_,Z,_,Z,_,Z,_,Z,_,Z,p,vi b,Z,aO.of hp,λp2 FF=>?_];refine#[p2,(b.drop i).takeWhile dS,Z,?_,λc hc=>Jz hc,?_]
    ·rw[ah,UE (by lia)]
    refine#[_,Z,_,Z,?_];exact mk 2 _ _ _ (aT FF _) (by rw[et];rfl) (by rw[et];rfl) (by rw[et])
   have hz2:¬ ((i+((b.drop i).takeWhile dS).length:Nat):Int)<=(i:Nat)+3:=λy=>z2 (decide_eq_true y);exact bad (λ_=>by lia)
  have hz1:¬ ((i:Nat):Int) < ((i+((b.drop i).takeWhile dS).length:Nat):Nat):=λy=>z1 (decide_eq_true y);exact#[_,Z,cH (bad (λhd=>absurd (td.mpr hd) (by lia)))]
def WG (c:Nat):pf (.int (c:Nat)) [(.int 9),(.int 10),(.int 13),(.int 32)]=Bd c:=by
 apply fX;unfold pf Bd;simp[Bs]
 lia
def FJ:p < (dq p (c::r)).2/\(dq p (c::r)).2<=p+(c::r).length:=by
 unfold dq;dsimp only;have a1:=lK (p:=da) (c::r);have a2:=lK (p:=dS) (c::r);simp only[aV] at a1 a2 ⊢;split
 ·rename_i h
  have:=qF (p:=da) (r:=r) h;dsimp only
  lia
 split
 ·rename_i h
  have:=qF (p:=dS) (r:=r) h;split <;> (dsimp only;lia)
 split <;> (dsimp only;lia)
def WH (l:bF) (h:GT l) (cG:(dq p (c::r)).1≠.bad):GT (((dq p (c::r)).1,p)::l):=by
 unfold dq at cG ⊢;dsimp only at cG ⊢;split
 ·exact .word (λc hc=>Jz hc) h
 split
 ·split
  ·rename_i h1 h2 h3
   rw[if_neg h1,if_pos h2,if_pos h3] at cG;exact absurd rfl cG
  exact .num h
 split
 ·exact .sign (by assumption) h
 rename_i h1 h2 h3;rw[if_neg h1,if_neg h2,if_neg h3] at cG;exact absurd rfl cG
theorem xE :∀(n p:Nat) (l:List Nat),l.length<=n->GT (C7 p l)/\(C7 p l).length<=l.length+1
 | _,p,[],_=>#[.eof p,aN _]
 | 0,p,c::r,h=>by simp at h
 | n+1,p,c::r,h=>by
  have hr:r.length<=n:=by simpa using h
  by_cases hb:Bd c=true
  ·rw[Iy hb]
   have:=xE n (p+1) r hr;exact#[this.1,by have:=this.2;simp;lia]
  rw[MC (cD.mpr hb)];have bd:=FJ (p:=p) (c:=c) (r:=r);have hd:((c::r).drop ((dq p (c::r)).2 - p)).length<=r.length:=by
   rw[dk];simp
   lia
  have ih:=xE n (dq p (c::r)).2 ((c::r).drop ((dq p (c::r)).2 - p)) (by lia);have g:=WH (p:=p) (c:=c) (r:=r) _ ih.1;have len :∀x,((x,p)::C7 (dq p (c::r)).2 ((c::r).drop ((dq p (c::r)).2 - p)):bF).length<=(c::r).length+1:=λx=>by
   have:=ih.2;rw[aV,aV]
   lia
  cases et:(dq p (c::r)).1 with
  | bad=>exact#[.bad p,by simp]
  | _=>rw[et] at g;exact#[g (by simp),len _]
def zB (H:Hp):List Addr->bF->Prop:=Paired (Mz H)
theorem zB.mono :∀{as:List Addr} {l:bF},zB H as l->(∀b C dx fs,H b=some (.ins C dx fs)->H' b=some (.ins C dx fs))->zB H' as l
 | _,_,.nil,_=>.nil
 | _,_,.cons ⟨dx,b,h⟩ r,k=>.cons #[dx,b,k _ _ _ _ h] (zB.mono r k)
inductive Lw (vs:List V) (H:Hp) (Q:VK) (_:XK):Prop where
 | mk (p:Addr) (b:List Nat) (_:vs=[.ref p]) (_:H p=some (.lst (vi b))) (_:b.length<=999) (_ :∀H' l as,bo H H'->H l=none->H' l=some (.lst (as.map V.ref))->zB H' as (jZ b)->Q (.ref l) H')
def UI (jH:wu aL 1 T.bP (qR)) (DO:aK aL 3 T.qA (NP)) :
  aK aL 4 T.rg (Lw):=by
 refine Y.rg.F.run pk λbx A outer s H vs Q E hr h=>?_;obtain⟨p,b,rfl,hp,hl,q⟩:=h;refine#[_,(aj (aZ 1 pk.nd (cO ao)) (aj (aZ 2 pk.nd bL) (aj (u9 PassesOwn.never (HQ (aa 2) (ir Y.iu (aa 0))) (aq (bG (HR (bU (aa 0) (aa 2)) (mX Y.Av.m)) (aq (Fb 2 pk.nd bL)) (aj (aZ 3 pk.nd (aJ Y.qA DO (hr.le rfl) aG (ae (aa 0) (ae (aa 2) ao)))) (aj (dC (qt (aa 1) (aa 3))) (aj (bG (dg (aW (aa 3)) (df Y.Kt)) (aq (aD (aa 1))) bp) (aq (aZ 2 pk.nd (aW (aa 3)))))))))) (aj (dC (qt (aa 1) (vU Y.bP.ug Y.bP.b Y.bP.m jH (hr.le rfl) aG (ae (df Y.YB) (ae dB (ae (ir Y.iu (aa 0)) (ae (ir Y.iu (aa 0)) ao))))))) (aq (aD (aa 1))))))),?_];refine#[bK _,λl Ls=>?_];have iT:p≠l:=aI hp Ls;refine⟨λm σ Hc=>∃(i:Nat) (as:List Addr) (done:bF) (z:Option V),σ = [some (.ref p),some (.ref l),some (.int (i:Nat)),z]/\i<=b.length/\bo H Hc/\Hc l=some (.lst (as.map V.ref))/\zB Hc as done/\done++C7 i (b.drop i)=jZ b/\done.length<=i/\m=b.length - i,
  #[_,0,[],[],none,Z,bK _,aT Ls _,ah,.nil,Z,bK _,Z],?_⟩
 rintro m σ Hc ⟨i,as,done,z,rfl,hi,hS,hL,hT,hE,hD,rfl⟩;have u6:=hS _ _ hp;have mh:as.length=done.length:=hT.length;refine#[_,Z,_,Z,p,vi b,Z,.inl (aO.of u6),_,_,Z,Z,_,Z,bE (λc=>?_) (λc=>?_)]
 ·rw[iz] at c
  have kE:i < b.length:=by have:=of_decide_eq_true c;lia
  have hb:b[i]?=some b[i]:=aw kE;refine#[λσ' Uu=>∃m',m' < b.length - i/\_,λ_ _ z=>z,?_];refine#[_,Z,_,Z,p,vi b,_,_,Z,Z,aO.of u6,qD hb,T.Av,_,Z,.inr (Y.Av.q _),Z,Z,_,Z,?_];show if pf _ _=true then _ else _;rw[WG];refine bE (λcb=>?_) (λcb=>?_)
  ·refine#[_,Z,_,_,Z,Z,_,by lia,i+1,as,done,z,Z,kE,hS,hL,hT,?_,by lia,Z]
   rw[<- hE,vp hb,Iy cb]
  have cb':Bd b[i]=false:=cD.mpr cb;refine#[_,Z,_,Z,p,b,i,b[i],Z,u6,hb,by lia,λH' a s' ha UJ=>?_];have mW:=hE;rw[vp hb,MC cb',<- vp hb] at mW;have bd:=FJ (p:=i) (c:=b[i]) (r:=b.drop (i+1));rw[<- vp hb,dk] at bd;obtain⟨dx,UJ⟩:=UJ;have Lx:=s' _ _ hL;have WI:a≠l:=λe=>by rw[e,Lx] at UJ;cases UJ
  refine#[_,Z,.inl #[Z,_,aO.of Lx],_,Z,l,_,Z,Lx,by rw[ai];show _ < 2 ^ 24;lia,?_];have WJ:aX H' l (.lst (as.map V.ref++[.ref a])) a=some (.ins T.bP.C dx (m8 (.int (yM (dq i (b.drop i)).1)) (Ia (dq i (b.drop i)).1) (.int (i:Nat)) (.int ((dq i (b.drop i)).2:Nat)))):=by
   rw[au WI];exact UJ
  have CU:bo H (aX H' l (.lst (as.map V.ref++[.ref a]))):=λb' o' ho=>by
   rw[au (aI ho Ls)];exact s' _ _ (hS _ _ ho)
  have Ly:aX H' l (.lst (as.map V.ref++[.ref a])) l=some (.lst ((as++[a]).map V.ref)):=by rw[ah,br];rfl
  have hT2:zB (aX H' l (.lst (as.map V.ref++[.ref a]))) (as++[a]) (done++[((dq i (b.drop i)).1,i)]):=by
   refine Paired.app (zB.mono hT λb' C dx fs ho=>?_) (.cons #[dx,_,WJ] .nil);rw[au (cN ho hL (by intro z;cases z))];exact s' _ _ ho
  refine#[_,Z,a,_,dx,_,_,Z,WJ,Y.bP.cl,Y.jG,Z,Z,_,Z,bE (λcw=>?_) (λcw=>?_)]
  ·have hw:(dq i (b.drop i)).1=.bad:=by
    have cw':yM (dq i (b.drop i)).1=3:=V.int.inj (of_decide_eq_true cw);cases e:(dq i (b.drop i)).1 with
    | bad=>rfl
    | _=>rw[e] at cw';simp[yM] at cw'
   rw[hw] at mW hT2;refine#[_,Z,q _ l (as++[a]) CU Ls Ly ?_];rw[<- mW];exact hT2
  have hw:(dq i (b.drop i)).1≠.bad:=λe=>cw (decide_eq_true (by rw[e];rfl));refine#[_,Z,a,_,dx,_,_,Z,WJ,Y.bP.cl,Y.tm,Z,b.length - (dq i (b.drop i)).2,by lia,(dq i (b.drop i)).2,as++[a],done++[((dq i (b.drop i)).1,i)],some (.ref a),Z,by lia,CU,Ly,hT2,?_,by simp;lia,Z];rw[<- mW,gm];have ed:(b.drop i).drop ((dq i (b.drop i)).2 - i)=b.drop (dq i (b.drop i)).2:=by
   rw[tI];congr 1
   lia
  rw[ed];cases e:(dq i (b.drop i)).1 with
  | bad=>exact absurd e hw
  | _=>rfl
 rw[iz] at c;have NN:i=b.length:=by
  have:¬ ((i:Nat):Int) < (b.length:Nat):=λz=>c (decide_eq_true z)
  lia
 subst NN;refine#[_,Z,.inl #[Z,_,aO.of hL],_,Z,p,vi b,Z,.inl (aO.of u6),_,Z,p,vi b,Z,.inl (aO.of u6),λx dx hx iV cG=>?_];refine#[x,dx,_,_,_,_,Z,ah,Z,?_];rw[ij,iz];have sS:=jv hx iV cG (.own x) (.ins T.bP.C dx (m8 (.int 4) (.str "") (.int (b.length:Nat)) (.int (b.length:Nat))));have Lx:=sS _ _ hL;refine#[l,_,Z,Lx,by rw[ai];show _ < 2 ^ 24;lia,_,Z,?_];have JA:x≠l:=λe=>by rw[e,hL] at hx;cases hx
 refine q _ l (as++[x]) (λb' o' ho=>?_) Ls (by rw[ah,br];rfl) ?_
 ·rw[au (aI ho Ls)]
  exact sS _ _ (hS _ _ ho)
 rw[<- hE,Be];refine Paired.app (zB.mono hT λb' C qH fs ho=>?_) (.cons #[dx,.int (b.length:Nat),?_] .nil)
 ·rw[au (cN ho hL (by intro z;cases z))]
  exact sS _ _ ho
 rw[au JA,ah];rfl
def Hs {as bs:List Addr} (h:as.map V.ref=bs.map V.ref):as=bs:=by
 have:=congrArg (sL (λv=>match v with | V.ref a=>a | _=>0)) h;simpa [bB,Function.comp_def] using this
def restOf (t:bF):Except gR cz:=if lh t=true then .ok [] else if dj t 59=false then cV 2 t else SR (t.drop 1)
def Gu (t:bF):SR t=(match ff t with
  | .error e=>.error e
  | .ok (s,r)=>match restOf r with
   | .error e=>.error e
   | .ok l=>.ok (s::l)):=by
 rw[Rw];cases e:ff t with
 | error e=>rfl
 | ok z=>
  obtain⟨s,r⟩:=z;dsimp only;unfold restOf;by_cases h1:lh r=true
  ·rw[if_pos h1,if_pos h1]
  rw[if_neg h1,if_neg h1];by_cases h2:dj r 59=false
  ·rw[if_pos h2,if_pos h2]
   unfold cV;rfl
  rw[if_neg h2,if_neg h2];try rfl
def Sj (h:dj t 59=true):lh t=false:=by
 unfold dj at h;unfold lh;split at h
 ·rfl
 cases h
def wz (E:XK) (H:Hp) (n p:Nat):Prop:=∀dx H',bo H H'->H' dx=some (.ext (XD dx (Jb (.int (n:Nat)) (.int (p:Nat)))))->E (.ref T.xC) (some dx) H'
theorem wz.UK (h:wz E H n p) (s:bo H H1) (hr:H r=none):nV E r H1 n p:=λdx H' e q=>h dx H' (λb o ho=>e b o (aI ho hr) (s b o ho)) q
inductive DP (vs:List V) (H:Hp) (Q:VK) (_:XK):Prop where
 | mk (x dx p:Addr) (b:List Nat) (_:vs=[.ref x,.ref p]) (_:H x=some (.ins T.bg.C dx [])) (_:H p=some (.lst (vi b))) (_:b.length<=999) (_ :∀H',Ext x H H'->dZ H' x (jZ b)->Q .cj H')
def Sk (Cf:aK aL 4 T.rg (Lw)):wu aL 5 T.bg (DP):=by
 refine Y.bg.F.run Kl λbx A outer s H vs Q E hr h=>?_;obtain⟨x,dx,p,b,rfl,hx,hp,hl,q⟩:=h;refine#[_,(aj (eR (aa 0) (aJ Y.rg Cf (hr.le rfl) aG (ae (aa 1) ao))) (aq (eR (aa 0) bL))),?_];refine#[_,Z,p,b,Z,hp,hl,λH' l as s' PB hL hT=>?_];refine#[_,Z,x,_,dx,_,Z,s' _ _ hx,Y.bg.cl,Y.rL,by simp,?_];refine#[_,Z,x,_,dx,_,Z,ah,Y.bg.cl,Y.oC,ag rfl,?_];rw[ij];have Qv:l≠x:=λe=>by rw[e,hx] at PB;cases PB
 refine q _ (λb' o' hb ho=>?_) #[dx,l,as,0,jZ b,ah,by rw[au Qv];exact hL,hT.length,λj a y h1 h2=>?_,Z]
 ·rw[au hb];exact s' _ _ ho
 obtain⟨y',hy,hA⟩:=Paired.get hT h1;rw[hy] at h2;cases h2;obtain⟨qH,b',hA⟩:=hA;refine#[qH,b',?_];rw[au (cN hA (s' _ _ hx) (λq=>absurd (congrArg dA (HO.ins.inj q).2.2) (by simp[m8])))];exact hA
theorem JB (hx:H x=none) (iV:H dx=none) (cG:dx≠x) (e:Ext x (aX (aX H dx o) x (.ins T.bg.C dx [])) H1):bo H H1:=λb u h=>
 e b u (aI h hx) (jv hx iV cG _ _ b u h)
theorem AD (s:bo H H1) (hr:H r=none) (e:Ext r H1 H2):bo H H2:=λb o h=>e b o (aI h hr) (s b o h)
inductive Qw (vs:List V) (H:Hp) (Q:VK) (E:XK):Prop where
 | mk (p:Addr) (b:List Nat) (_:vs=[.ref p]) (_:H p=some (.lst (vi b))) (_:b.length<=999) (_:match eZ b with | .ok a=>∀H' q,bo H H'->H q=none->gK H' q (aQ a)->Q (.ref q) H' | .error (n,pl)=>wz E H n pl)
def Z5 (nD:wu aL 5 T.bg (DP)) (jV:aK (gC P w) 4 T.fh (Cb))
  (kL:aK (gC P w) 45 T.iD (tw 0 12)):aK (gC P w) 46 T.kq (Qw):=by
 refine Y.kq.F.yC tS λbx A outer s H vs Q E hr h=>?_;obtain⟨p,b,rfl,hp,hl,q⟩:=h;refine#[_,(aj (aZ 1 tS.nd (vU Y.bg.ug Y.bg.b Y.bg.m nD (hr.le rfl) aG (ae (aa 0) ao))) (aj (aZ 2 tS.nd (aJ Y.iD kL (hr.le rfl) (iW λ_ _ _ z=>z) (ae (aa 1) (ae bL ao)))) (aj (dC (mq Y.fh Y.bg.cl jV (hr.le rfl) (iW λ_ _ _ z=>z) (aa 1))) (aq (aD (aa 2)))))),?_];have FK:=xE b.length 0 b (aN _);rw[<- tZ] at FK;refine#[_,Z,λx dx hx iV cG=>?_];refine#[x,dx,p,b,Z,ah,jv hx iV cG _ _ _ _ hp,hl,λH1 FH UA=>#[Z,?_]];have s1:bo H H1:=JB hx iV cG FH;refine#[_,Z,x,_,Z,UA,FK.1,by lia,?_];have q:match (match AR 0 12 (.basic 4 0) (jZ b) with
   | .error e=>.error e
   | .ok (a,r)=>if lh r=true then .ok a else cV 2 r:Except gR bD) with
  | .ok a=>∀H' q,bo H H'->H q=none->gK H' q (aQ a)->Q (.ref q) H'
  | .error (n,pl)=>wz E H n pl:=by
  rw[show AR 0 12 (.basic 4 0) (jZ b)=Vbrgah.areaIn (jZ b) from(pZ _).symm];exact q
 cases ea:AR 0 12 (.basic 4 0) (jZ b) with
 | error e=>rw[ea] at q;exact wz.UK q s1 hx
 | ok z=>
  obtain⟨a,t⟩:=z;rw[ea] at q;intro H2 pa g1 g2 g3 g4 g5;obtain⟨y,t1,rfl⟩:=g2.head;obtain⟨qQ,l2,su,i2,a2,k2,_⟩:=g1.tok;have s2:=AD s1 hx g3;refine#[_,Z,x,qQ,_,Z,k2,yp,x,y,t1,Z,g1,λo=>?_,λo=>?_]
  ·have q :∀H' q,bo H H'->H q=none->gK H' q (aQ a)->Q (.ref q) H':=by
    have z:(match (if lh (y::t1)=true then .ok a else cV 2 (y::t1):Except gR bD) with
     | .ok a=>∀H' q,bo H H'->H q=none->gK H' q (aQ a)->Q (.ref q) H'
     | .error (n,pl)=>wz E H n pl):=q
    rw[o] at z;exact z
   exact#[_,Z,q _ _ s2 (s1.free g4) g5]
  have q:wz E H (Ay y.1 2) y.2:=by
   have z:(match (if lh (y::t1)=true then .ok a else cV 2 (y::t1):Except gR bD) with
    | .ok a=>∀H' q,bo H H'->H q=none->gK H' q (aQ a)->Q (.ref q) H'
    | .error (n,pl)=>wz E H n pl):=q
   rw[o,Az] at z;exact z
  exact wz.UK q s2 hx
def hZ (H:Hp):List Addr->cz->Prop:=Paired (du H)
def du.mono (h:du H a s) (k1 :∀C dx fs,H a=some (.ins C dx fs)->H' a=some (.ins C dx fs)) (k2 :∀p l,gK H p l->l≠[]->gK H' p l):du H' a s:=by
 obtain⟨dx,p,wv,h1,h2,h3⟩:=h;refine#[dx,p,wv,k1 _ _ _ h1,k2 _ _ h2 (AA _),?_];cases hc:s.cond with
 | none=>rw[hc] at h3;exact h3
 | some c=>
  rw[hc] at h3;obtain⟨p',e,h4⟩:=h3;exact#[p',e,k2 _ _ h4 (AA _)]
theorem hZ.mono (k :∀a s,du H a s->du H' a s) :∀{as:List Addr} {l:cz},hZ H as l->hZ H' as l
 | _,_,.nil=>.nil
 | _,_,.cons h r=>.cons (k _ _ h) (hZ.mono k r)
theorem du.same {H H':Hp} (s:bo H H') {a:Addr} {st:cC} (h:du H a st):du H' a st:=du.mono h (λ_ _ _ z=>s _ _ z) (λ_ _ z _=>z.same s)
theorem du.ext {H H':Hp} {r:Addr} {t:bF} (hr:dZ H r t) (e:Ext r H H') {a:Addr} {st:cC} (h:du H a st):du H' a st:=by
 obtain⟨dx0,_,_,_,_,h1,_⟩:=hr.ex;obtain⟨dx,p,wv,h0,_⟩:=id h;have cG:a≠r:=cN h0 h1 (λq=>absurd (congrArg dA (HO.ins.inj q).2.2) (by simp[yo,eg]));exact du.mono h (λ_ _ _ z=>e _ _ cG z) (λ_ _ z _=>z.ext hr e)
def du.put {H:Hp} {sl:Addr} {as:List Addr} {done:cz} {o:HO} (hs:H sl=some (.lst (as.map V.ref))) (hd:hZ H as done) (hn:done≠[]) {a:Addr} {st:cC} (h:du H a st):du (aX H sl o) a st:=by
 refine du.mono h (λC dx fs z=>by rw[au (cN z hs (by intro q;cases q))];exact z) λp l hl Ls=>?_;obtain⟨qf,w1,w2⟩:=hl;have cG:p≠sl:=λe=>by
  rw[e,hs] at w1;have ee:=Hs (HO.lst.inj (bN.inj w1));subst ee;cases hd with
  | nil=>exact hn rfl
  | cons h1 _=>
   cases w2 with
   | cons h2 _=>
    obtain⟨_,_,_,h1,_⟩:=h1;rw[show H _=_ from h2] at h1;cases h1
 refine#[qf,by rw[au cG];exact w1,eV.mono w2 λb xs z=>?_];rw[au (cN z hs (by intro q;cases q))];exact z
def dZ.put {H:Hp} {r sl:Addr} {t:bF} {o:HO} {as:List Addr} {done:cz} (h:dZ H r t) (hg:GT t) (hs:H sl=some (.lst (as.map V.ref))) (hd:hZ H as done) (hn:done≠[]):dZ (aX H sl o) r t:=by
 refine h.Uo (λC dx fs z=>by rw[hs] at z;cases z) λdx l v hl e=>?_;subst e;obtain⟨dx,l,qf,i,toks,h1,h2,h3,h4,h5⟩:=h.ex;rw[h1] at hl;obtain⟨_,_,e⟩:=HO.ins.inj (bN.inj hl);have e':l=sl:=by simpa [eg] using (congrArg (λz=>z.lookup ("tokens" : Str)) e)
 rw[e',hs] at h2;have ea:=Hs (HO.lst.inj (bN.inj h2));subst ea;cases hd with
 | nil=>exact hn rfl
 | @cons a it _ _ ha _=>
  obtain⟨x,t',rfl⟩:=hg.head;have:toks≠[]:=λz=>by rw[z] at h5;simp at h5
  obtain⟨y,ys,rfl⟩:=List.exists_cons_of_ne_nil this;obtain⟨qH,b,z⟩:=h4 0 a y rfl rfl;obtain⟨_,_,_,ha,_⟩:=ha;rw[z] at ha;have:=congrArg (λz=>z.map (·.1)) (HO.ins.inj (bN.inj ha)).2.2;exact absurd this (by simp only[m8,yo,cv,pX];decide)
def Et (done:cz) (res:Except gR cz) (H:Hp) (Q:VK) (E:XK):Prop:=match res with
 | .ok l=>∀H' q as,bo H H'->H q=none->H' q=some (.lst (as.map V.ref))->hZ H' as (done++l)->Q (.ref q) H'
 | .error (n,pl)=>wz E H n pl
def Et.step (e:ff t=.ok (s,r)) (h:Et done (SR t) H Q E):Et (done++[s]) (restOf r) H Q E:=by
 rw[Gu,e] at h;dsimp only at h;cases er:restOf r with
 | error z=>rw[er] at h;exact h
 | ok l=>
  rw[er] at h;intro H' q as h1 h2 h3 h4;rw[gm] at h4;exact h H' q as h1 h2 h3 h4
def Et.bad (e:ff t=.error (n,pl)) (h:Et done (SR t) H Q E):wz E H n pl:=by
 rw[Gu,e] at h;exact h
inductive Ic (vs:List V) (H:Hp) (Q:VK) (E:XK):Prop where
 | mk (p:Addr) (b:List Nat) (_:vs=[.ref p]) (_:H p=some (.lst (vi b))) (_:b.length<=999) (_:Et [] (gM b) H Q E)
def WK (nD:wu aL 5 T.bg (DP)) (jV:aK (gC P w) 4 T.fh (Cb))
  (cE:aK aL 3 T.dc (so)) (x4:aK (gC P w) 46 T.ox (Qr)) :
  aK (gC P w) 47 T.kY (Ic):=by
 refine Y.kY.F.yC yJ λbx A outer s H vs Q E hr h=>?_;obtain⟨p,b,rfl,hp,hl,q⟩:=h;refine#[_,(aj (aZ 1 yJ.nd (vU Y.bg.ug Y.bg.b Y.bg.m nD (hr.le rfl) aG (ae (aa 0) ao))) (aj (aZ 2 yJ.nd (cO (ae (aJ Y.ox x4 (hr.le rfl) (iW λ_ _ _ z=>z) (ae (aa 1) ao)) ao))) (aj (u9 PassesOwn.leaving (gD (eQ Y.dc Y.bg.cl cE (hr.le rfl) aG (aa 1) (ae dB ao))) (aq (dC (qt (aa 2) (aJ Y.ox x4 (hr.le rfl) (iW λ_ _ _ z=>z) (ae (aa 1) ao)))))) (aj (dC (mq Y.fh Y.bg.cl jV (hr.le rfl) (iW λ_ _ _ z=>z) (aa 1))) (aq (aD (aa 2))))))),?_];have FK:=xE b.length 0 b (aN _);rw[<- tZ] at FK;rw[zS] at q;refine#[_,Z,λr dx hx iV cG=>?_];refine#[r,dx,p,b,Z,ah,jv hx iV cG _ _ _ _ hp,hl,λH1 FH UA=>#[Z,?_]];have s1:bo H H1:=JB hx iV cG FH;refine#[_,Z,r,_,Z,UA,FK.1,by lia,?_];cases ea:ff (jZ b) with
 | error e=>exact wz.UK (Et.bad ea q) s1 hx
 | ok z=>
  obtain⟨s0,t0⟩:=z;intro H2 a0 g1 g2 g3 g4 g5;have q:=Et.step ea q;have l0:=sU ea;refine#[fB 1,λsl FL=>?_];have s2:=AD s1 hx g3;have sN:=aT FL (.lst [.ref a0]);have adn:H sl=none:=s2.free FL;refine⟨λm σ Hc=>∃(t:bF) (as:List Addr) (done:cz),σ = [some (.ref p),some (.ref r),some (.ref sl)]/\dZ Hc r t/\GT t/\bo H Hc/\Hc sl=some (.lst (as.map V.ref))/\hZ Hc as done/\done≠[]/\done.length+t.length<=1000/\m=t.length/\Et done (restOf t) H Q E,
   #[_,t0,[a0],[s0],Z,g1.same sN,g2,s2.trans sN,ah,.cons (g5.same sN) .nil,by simp,by simp;lia,Z,q],?_⟩
  rintro m σ Hc ⟨t,as,done,rfl,f1,f2,f3,f4,f5,f6,f7,rfl,f9⟩;obtain⟨x,t1,rfl⟩:=f2.head;obtain⟨qQ,l,asr,i,a,k1,_⟩:=f1.tok;have la:as.length=done.length:=f5.length;refine#[_,Z,r,qQ,_,Z,k1,mK,r,_,x,t1,Z,f1,?_];rw[vn f2 (s:=";") (c:=59) rfl rfl];refine#[λo H' xg mW=>#[_,Z,bE (λ_=>?_) (λz=>absurd rfl z)],λo=>#[_,Z,bE (λz=>absurd z (by simp)) (λ_=>?_)]]
  ·refine#[λσ' Uu=>∃m',m' < (x::t1).length/\_,λ_ _ z=>z,?_]
   have Jx:GT t1:=uj f2 o;have hsr:sl≠r:=cN f4 k1 (by intro z;cases z);have f4':=mW _ _ hsr f4;have f5':hZ H' as done:=hZ.mono (λ_ _ z=>z.ext f1 mW) f5;have q2:Et done (SR t1) H Q E:=by
    unfold restOf at f9;rw[Sj o,if_neg (by simp),o,if_neg (by simp)] at f9;exact f9
   simp at f7;refine#[_,Z,.inl #[Z,_,aO.of f4'],_,Z,r,t1,Z,xg,Jx,by lia,?_];cases eb:ff t1 with
   | error e=>exact wz.UK (Et.bad eb q2) (AD f3 hx mW) hx
   | ok z=>
    obtain⟨s3,t3⟩:=z;have l3:=sU eb;intro H3 a3 j1 j2 j3 j4 j5;have Sl:=j3 _ _ hsr f4';have Sm:hZ H3 as done:=hZ.mono (λ_ _ z=>z.ext xg j3) f5';refine#[sl,_,Z,Sl,by rw[ai];show _ < 2 ^ 24;lia,t3.length,by simp;lia,t3,as++[a3],done++[s3],Z,dZ.put j1 j2 Sl Sm f6,j2,?_,?_,?_,by simp,by simp;lia,Z,Et.step eb q2]
    ·intro b' o' ho
     rw[au (aI ho adn)];exact AD (AD f3 hx mW) hx j3 _ _ ho
    ·rw[ah,br];rfl
    exact Paired.app (hZ.mono (λ_ _ z=>du.put Sl Sm f6 z) Sm) (.cons (du.put Sl Sm f6 j5) .nil)
  refine#[_,Z,r,qQ,_,Z,k1,yp,r,x,t1,Z,f1,λo2=>?_,λo2=>?_]
  ·unfold restOf at f9
   rw[o2,if_pos rfl] at f9;refine#[_,Z,f9 _ sl as f3 adn f4 ?_];rw[b5];exact f5
  unfold restOf at f9;rw[o2,if_neg (by simp),o,if_pos rfl,Az] at f9;exact wz.UK f9 f3 hx
abbrev Gv:List (Key × V):=[(.inr "not",(.int 1)),(.inr "grow",(.int 1)),(.inr "&",(.int 2)),(.inr "|",(.int 2))]
def Gw {it:Sp.Itm} (h:nL it):(qp Gv (.inr (sb (mG it)))).getD (.int 0)=.int (arity it:Nat):=by
 cases it with
 | no=>show(qp Gv (.inr (sb (bw "not")))).getD _=_;rw[<- eA];rfl
 | grow=>show(qp Gv (.inr (sb (bw "grow")))).getD _=_;rw[<- eA];rfl
 | both=>rfl
 | either=>rfl
 | sim k n=>
  have hk:k < 16:=h.1;show(qp Gv (.inr (sb (aF.getD k [])))).getD _=_
  match k,hk with
  | 0,_ | 1,_ | 2,_ | 3,_ | 4,_ | 5,_ | 6,_ | 7,_ | 8,_ | 9,_ | 10,_ | 11,_ | 12,_ | 13,_ | 14,_ | 15,_=>rfl
  | j+16,h=>exact absurd h (by lia)
def WL {α : Type} {xs:List α} {n i:Nat} (h:i < n) (hn:n<=xs.length):(xs.take (xs.length - i)).dropLast=xs.take (xs.length - (i+1)):=by
 rw[List.dropLast_eq_take,bJ,List.take_take];congr 1
 lia
inductive AE (vs:List V) (H:Hp) (Q:VK) (_:XK):Prop where
 | mk (p:Addr) (it:Sp.Itm) (xs:List V) (_:vs=[.ref p,.str (sb (mG it))]) (_:H p=some (.lst xs)) (_:nL it) (_:arity it<=xs.length) (_ :∀q H',H q=none->H' q=some (.lst (xs.drop (xs.length - arity it)))->H' p=some (.lst (xs.take (xs.length - arity it)))->(∀b,b≠p->b≠q->H' b=H b)->Q (.ref q) H')
def WM:aK aL 1 T.eS (AE):=by
 refine Y.eS.F.run qu λbx A outer s H vs Q E hr h=>?_;obtain⟨p,it,xs,rfl,hp,hw,ha,q⟩:=h;have hu:(rX aL P w K mg aS ["values","word","count","operands","turn"] "take_operands" (ax vV) T.eS.f bx A outer s H E).D9.A.units+1 < cLine:=by
  have z:=hr.units;show(A.deeper _).units+1 < cLine
  lia
 refine#[_,(aj (aZ 2 qu.nd (Uc Y.zy hu (aa 1) bL)) (aj (aZ 3 qu.nd (zu (aa 0) (nQ (kI (ir Y.iu (aa 0)) (aa 2))) Jf)) (aj (kJ PassesOwn.never rfl (nR Y.i8 (aa 2)) (gu 4 qu.nd) (aq (dC (Yt (aa 0))))) (aq (aD (aa 3)))))),?_];have JC:arity it<=2:=by cases it <;> simp[arity]
 refine#[_,Z,.inr (sb (mG it)),Z,?_];rw[show(qp Gv (.inr (sb (mG it)))).getD (.int 0)=.int (arity it:Nat) from Gw hw];refine#[_,Z,_,Z,p,xs,Z,.inl (aO.of hp),_,Z,_,_,Z,Z,_,Z,p,xs,Z,aO.of hp,λq' nM=>?_];have ado:pd xs (some (((xs.length:Nat):Int) - (arity it:Nat))) none=xs.drop (xs.length - arity it):=by
  rw[show((xs.length:Nat):Int) - (arity it:Nat)=((xs.length - arity it:Nat):Int) from by lia];unfold pd;rw[HT.xq,HT.Ds,jP (by lia)];exact oJ (by rw[dk];lia)
 rw[ado];have cG:p≠q':=aI hp nM;refine#[_,Z,_,Z,by lia,by lia,?_];rw[cg];refine rW (λi σ Hc=>∃z,σ = [some (.ref p),some (.str (sb (mG it))),some (.int (arity it:Nat)),some (.ref q'),z]/\Hc q'=some (.lst (xs.drop (xs.length - arity it)))/\Hc p=some (.lst (xs.take (xs.length - i)))/\∀b,b≠p->b≠q'->Hc b=H b) #[none,Z,ah,?_,λb h1 h2=>au h2] (λi σ Hc hi e=>?_) (λσ Hc e=>?_)
 ·rw[au cG,Gb,cq];exact hp
 ·obtain⟨z,rfl,e1,e2,e3⟩:=e
  have eP:(xs.take (xs.length - i)).length=xs.length - i:=by rw[bJ];lia
  have kE:(xs.take (xs.length - i)).length - 1 < (xs.take (xs.length - i)).length:=by lia
  refine#[_,Z,.inl #[Z,_,aO.of e2],p,_,_,Z,Z,e2,aw kE,some (.int (0+(i:Nat))),Z,?_,?_,λb h1 h2=>?_]
  ·rw[au (Ne.symm cG)];exact e1
  ·rw[ah,WL hi ha]
  rw[au h1];exact e3 b h1 h2
 obtain⟨z,rfl,e1,e2,e3⟩:=e;exact#[_,Z,q q' Hc nM e1 e2 e3]
def ei (a b:List Nat):sb a++sb b=sb (a++b):=by
 show Str.mk _=Str.mk _;simp;rfl
def dX (a:List Nat):(sb a).length=a.length:=by
 unfold sb Str.length;simp
def sz (h:n<=10000000):n<=sizeLine:=by
 show n<=2 ^ 24
 lia
def text_len (s:String):(Str.ofString s).length=(bw s).length:=by rw[eA,dX]
def wt (st:List (List Nat × Nat)):Nat:=(st.map (λp=>p.1.length)).sum
def NQ (a b:List (List Nat × Nat)):wt (a++b)=wt a+wt b:=by
 unfold wt;rw[br,List.sum_append]
def rq (p:List Nat × Nat) (k:Nat):(Sp.brk p k).length<=p.1.length+2:=by
 unfold Sp.brk;split
 ·simp
 lia
def Qx (h:n<=9):(mD n).length=1:=by
 match n,h with
 | 0,_ | 1,_ | 2,_ | 3,_ | 4,_ | 5,_ | 6,_ | 7,_ | 8,_ | 9,_=>rfl
 | j+10,h=>lia
def vD (h:k < 16):(aF.getD k []).length<=7:=by
 match k,h with
 | 0,_ | 1,_ | 2,_ | 3,_ | 4,_ | 5,_ | 6,_ | 7,_ | 8,_ | 9,_ | 10,_ | 11,_ | 12,_ | 13,_ | 14,_ | 15,_=>decide
 | j+16,h=>lia
def afh (h:uY iS it ops=some v) (hw:nL it):v.1.length<=wt ops+20:=by
 cases it with
 | sim k n=>
  match ops with
  | []=>
   cases h;have a1:=vD hw.1;have a2:=Qx hw.2.1;show(aF.getD k []++(if 5<=k/\k<=7 then 32::mD n else [])).length<=_;rw[ay];split
   ·rw[aV];lia
   simp only[ie];lia
  | _::_=>cases h
 | no=>
  match ops with
  | [x]=>
   cases h;have:=rq x 3;show(bw "not " ++ Sp.brk x 3).length<=wt [x]+20;rw[ay];have:(bw "not ").length=4:=rfl;simp[wt]
   lia
  | []=>cases h
  | _::_::_=>cases h
 | grow=>
  match ops with
  | [x]=>
   cases h;have:=rq x 3;show(bw "grow " ++ Sp.brk x 3).length<=wt [x]+20;rw[ay];have:(bw "grow ").length=5:=rfl;simp[wt]
   lia
  | []=>cases h
  | _::_::_=>cases h
 | both=>
  match ops with
  | [x,y]=>
   cases h;have a1:=rq x 2;have a2:=rq y 3;show(Sp.brk x 2++(bw " & " ++ Sp.brk y 3)).length<=wt [x,y]+20;rw[ay,ay];have:(bw " & ").length=3:=rfl;simp[wt]
   lia
  | []=>cases h
  | [_]=>cases h
  | _::_::_::_=>cases h
 | either=>
  match ops with
  | [x,y]=>
   cases h;have a1:=rq x 1;have a2:=rq y 2;show(Sp.brk x 1++(bw " | " ++ Sp.brk y 2)).length<=wt [x,y]+20;rw[ay,ay];have:(bw " | ").length=3:=rfl;simp[wt]
   lia
  | []=>cases h
  | [_]=>cases h
  | _::_::_::_=>cases h
def Z6 {it:Sp.Itm} {st s2:List (List Nat × Nat)} (h:iR iS st it=some s2) (hw:nL it):wt s2<=wt st+20:=by
 obtain⟨_,v,h1,rfl⟩:=sV h;have:=afh h1 hw;have e:wt st=wt (st.take (st.length - arity it))+wt (st.drop (st.length - arity it)):=by rw[<- NQ,ip]
 rw[NQ,e];have:wt [v]=v.1.length:=by simp[wt]
 lia
def FN (H:Hp) (a:Addr) (p:List Nat × Nat):Prop:=H a=some (.tup [.str (sb p.1),.int (p.2:Nat)])
inductive NR (vs:List V) (H:Hp) (Q:VK) (_:XK):Prop where
 | mk (a:Addr) (p:List Nat × Nat) (k:Nat) (_:vs=[.ref a,.int (k:Nat)]) (_:FN H a p) (_:p.1.length<=1000000) (_:Q (.str (sb (Sp.brk p k))) H)
def adp:aK aL 1 T.kK (NR):=by
 refine Y.kK.F.run Np λbx A outer s H vs Q E hr h=>?_;obtain⟨a,⟨b,n⟩,k,rfl,ha,hl,q⟩:=h;have ha:H a=some (.tup [.str (sb b),.int (n:Nat)]):=ha;refine#[_,(aj (bG (HQ (jE (aa 0) bL) (aa 1)) (aq (aD (kb (kb dB (jE (aa 0) bL)) dB))) bp) (aq (aD (jE (aa 0) bL)))),?_];refine#[_,Z,a,_,_,_,Z,Z,gN.of ha,b8 (j:=1) rfl,_,Z,_,_,Z,Z,_,Z,bE (λc=>?_) (λc=>?_)]
 ·have c':=of_decide_eq_true c
  refine#[_,Z,a,_,_,_,Z,Z,gN.of ha,b8 (j:=0) rfl,_,_,Z,Z,?_,_,_,Z,Z,?_,?_]
  ·rw[dX];exact sz (by have:(Str.ofString "(").length=1:=rfl;simp at hl;lia)
  ·rw[show Str.ofString "(" = sb [40] from rfl,ei,dX]
   exact sz (by have:(Str.ofString ")").length=1:=rfl;simp at hl ⊢;lia)
  rw[show Str.ofString "(" = sb [40] from rfl,show Str.ofString ")" = sb [41] from rfl,ei,ei];unfold Sp.brk at q;rw[if_pos (show n < k by lia)] at q;exact q
 have c':¬ ((n:Nat):Int) < (k:Nat):=λz=>c (decide_eq_true z);refine#[_,Z,a,_,_,_,Z,Z,gN.of ha,b8 (j:=0) rfl,?_];unfold Sp.brk at q;rw[if_neg (show ¬ n < k by lia)] at q;exact q
def Sn (H:Hp):List Addr->List (List Nat × Nat)->Prop:=Paired (FN H)
inductive Qy (vs:List V) (H:Hp) (Q:VK) (_:XK):Prop where
 | mk (op a1 a2:Addr) (u:List Nat) (p1 p2:List Nat × Nat) (k:Nat) (_:vs=[.str (sb u),.ref op,.int (k:Nat)]) (_:H op=some (.lst [.ref a1,.ref a2])) (_:FN H a1 p1) (_:FN H a2 p2) (_:p1.1.length<=1000000) (_:p2.1.length<=1000000) (_:u.length<=10) (_ :∀q,H q=none->Q (.ref q) (aX H q (.tup [.str (sb (Sp.brk p1 k++(32::(u++(32::Sp.brk p2 (k+1)))))),.int (k:Nat)])))
def Z7 (oE:aK aL 1 T.kK (NR)):aK aL 2 T.ow (Qy):=by
 refine Y.ow.F.run Al λbx A outer s H vs Q E hr h=>?_;obtain⟨op,a1,a2,u,p1,p2,k,rfl,ho,h1,h2,l1,l2,lu,q⟩:=h;refine#[_,(aj (aZ 3 Al.nd (aJ Y.kK oE (hr.le rfl) aG (ae (bU (aa 1) bL) (ae (aa 2) ao)))) (aj (aZ 4 Al.nd (aJ Y.kK oE (hr.le rfl) aG (ae (bU (aa 1) bL) (ae (iX (aa 2) bL) ao)))) (aq (aD (nP (ae (kb (kb (kb (kb (aa 3) dB) (aa 0)) dB) (aa 4)) (ae (aa 2) ao))))))),?_];have b1:=rq p1 k;have b2:=rq p2 (k+1);refine#[_,Z,op,_,_,_,Z,Z,aO.of ho,b8 (j:=0) rfl,_,Z,a1,p1,k,Z,h1,l1,?_];refine#[_,Z,op,_,_,_,Z,Z,aO.of ho,b8 (j:=1) rfl,_,Z,_,_,Z,Z,a2,p2,k+1,Z,h2,l2,?_];have tO:Str.ofString " " = sb [32]:=rfl;refine#[_,Z,_,_,Z,Z,?_,_,Z,_,_,Z,Z,?_,_,_,Z,Z,?_,_,Z,_,_,Z,Z,?_,_,Z,fB 2,λq' nM=>?_]
 ·rw[tO,dX,dX];exact sz (by simp;lia)
 ·rw[tO,ei,dX,dX];exact sz (by simp;lia)
 ·rw[tO,ei,ei,dX,dX];exact sz (by simp;lia)
 ·rw[tO,ei,ei,ei,dX,dX];exact sz (by simp;lia)
 have z:=q q' nM;rw[tO,ei,ei,ei,ei];simpa using z
def pM {b:Bool} {A B:Prop} (h:b=false) (k:B):if b=true then A else B:=by rw[h];exact cH k
def So {b:Bool} {A B:Prop} (h:b=true) (k:A):if b=true then A else B:=by rw[h];exact cF k
def Qz {k:Nat} (h:k < 16):decide (V.str (sb (aF.getD k []))=V.str "|")=false/\decide (V.str (sb (aF.getD k []))=V.str "&")=false/\decide (V.str (sb (aF.getD k []))=V.str "not")=false/\decide (V.str (sb (aF.getD k []))=V.str "grow")=false:=by
 match k,h with
 | 0,_ | 1,_ | 2,_ | 3,_ | 4,_ | 5,_ | 6,_ | 7,_ | 8,_ | 9,_ | 10,_ | 11,_ | 12,_ | 13,_ | 14,_ | 15,_=>exact#[Z,Z,Z,Z]
 | j+16,h=>lia
def Z8 {k:Nat} (h:k < 16):i9.contains (sb (aF.getD k []))=decide (5<=k/\k<=7):=by
 match k,h with
 | 0,_ | 1,_ | 2,_ | 3,_ | 4,_ | 5,_ | 6,_ | 7,_ | 8,_ | 9,_ | 10,_ | 11,_ | 12,_ | 13,_ | 14,_ | 15,_=>rfl
 | j+16,h=>lia
def afi {v:List Nat × Nat} {ops:List (List Nat × Nat)} (h:uY iS .no ops=some v) :∃x,ops=[x]/\v=iS.no x:=by
 match ops with
 | [x]=>cases h;exact#[x,Z,Z]
 | []=>cases h
 | _::_::_=>cases h
def Z9 {v:List Nat × Nat} {ops:List (List Nat × Nat)} (h:uY iS .grow ops=some v) :∃x,ops=[x]/\v=iS.grow x:=by
 match ops with
 | [x]=>cases h;exact#[x,Z,Z]
 | []=>cases h
 | _::_::_=>cases h
def zN {α : Type} {f:Alg α} {v:α} {ops:List α} (h:uY f .both ops=some v) :∃x y,ops=[x,y]/\v=f.both x y:=by
 match ops with
 | [x,y]=>cases h;exact#[x,y,Z,Z]
 | []=>cases h
 | [_]=>cases h
 | _::_::_::_=>cases h
def vt {α : Type} {f:Alg α} {v:α} {ops:List α} (h:uY f .either ops=some v) :∃x y,ops=[x,y]/\v=f.either x y:=by
 match ops with
 | [x,y]=>cases h;exact#[x,y,Z,Z]
 | []=>cases h
 | [_]=>cases h
 | _::_::_::_=>cases h
def CV {α : Type} {f:Alg α} {v:α} {ops:List α} {k n:Nat} (h:uY f (.sim k n) ops=some v):ops=[]/\v=f.sim k n:=by
 match ops with
 | []=>cases h;exact#[Z,Z]
 | _::_=>cases h
def QC {n:Nat} (h:n<=1000000000):((n:Int).natAbs).log2 < 1920:=by
 have:(n:Int).natAbs=n:=rfl;rw[this];by_cases h0:n=0
 ·subst h0;decide
 exact(Nat.log2_lt h0).mpr (b6 (show n < 2 ^ 30 by lia) (Nat.pow_le_pow_right (by decide) (by decide)))
theorem JD (n:Nat):Str.ofString (toString ((n:Nat):Int))=sb (mD n):=eA _
inductive QD (vs:List V) (H:Hp) (Q:VK) (_:XK):Prop where
 | mk (op:Addr) (as:List Addr) (iI:List (List Nat × Nat)) (it:Sp.Itm) (v:List Nat × Nat) (_:vs=[.str (sb (mG it)),.int (Cv it:Nat),.ref op]) (_:H op=some (.lst (as.map V.ref))) (_:Sn H as iI) (_:wt iI<=1000000) (_:nL it) (_:uY iS it iI=some v) (_ :∀q,H q=none->Q (.ref q) (aX H q (.tup [.str (sb v.1),.int (v.2:Nat)])))
def NS (oE:aK aL 1 T.kK (NR)) (x6:aK aL 2 T.ow (Qy)) :
  aK aL 3 T.rb (QD):=by
 refine Y.rb.F.run Nn λbx A outer s H vs Q E hr h=>?_;obtain⟨op,as,iI,it,v,rfl,ho,hA,hl,hw,hv,q⟩:=h;refine#[_,(aj (bG (dg (aa 0) dB) (aq (aD (aJ Y.ow x6 (hr.le rfl) aG (ae (aa 0) (ae (aa 2) (ae (df Y.Ks) ao)))))) bp) (aj (bG (dg (aa 0) dB) (aq (aD (aJ Y.ow x6 (hr.le rfl) aG (ae (aa 0) (ae (aa 2) (ae (df Y.Jt) ao)))))) bp) (aj (bG (qK (w_or (dg (aa 0) dB) (oX (dg (aa 0) dB)))) (aq (aD (nP (ae (kb (kb (aa 0) dB) (aJ Y.kK oE (hr.le rfl) aG (ae (bU (aa 2) bL) (ae (df Y.Ju) ao)))) (ae (df Y.Ju) ao))))) bp) (aj (bG (HR (aa 0) (mX Y.jY.m)) (aq (aD (nP (ae (kb (kb (aa 0) dB) (Ys Y.YA (aa 1))) (ae (df Y.Ju) ao))))) bp) (aq (aD (nP (ae (aa 0) (ae (df Y.Ju) ao))))))))),?_];have tO:Str.ofString " " = sb [32]:=rfl;have wt2 :∀x y,wt [x,y]=x.1.length+y.1.length:=λx y=>by simp[wt]
 have wt1 :∀x,wt [x]=x.1.length:=λx=>by simp[wt]
 cases it with
 | either=>
  obtain⟨x,y,rfl,rfl⟩:=vt hv;rw[wt2] at hl;cases hA with
  | @cons a1 _ _ _ h1 r=>
   cases r with
   | @cons a2 _ _ _ h2 r=>
    cases r;refine#[_,Z,Z,_,Z,cF ?_];refine#[_,Z,_,Z,op,a1,a2,[124],x,y,1,Z,ho,h1,h2,by lia,by lia,by decide,λq' nM=>?_];exact q q' nM
 | both=>
  obtain⟨x,y,rfl,rfl⟩:=zN hv;rw[wt2] at hl;cases hA with
  | @cons a1 _ _ _ h1 r=>
   cases r with
   | @cons a2 _ _ _ h2 r=>
    cases r;refine#[_,Z,Z,_,Z,cH ?_];refine#[_,Z,Z,_,Z,cF ?_];refine#[_,Z,_,Z,op,a1,a2,[38],x,y,2,Z,ho,h1,h2,by lia,by lia,by decide,λq' nM=>?_];exact q q' nM
 | no=>
  obtain⟨x,rfl,rfl⟩:=afi hv;have hI:(mG .no).length<=5:=by decide
  rw[wt1] at hl;cases hA with
  | @cons a1 _ _ _ h1 r=>
   cases r;refine#[_,Z,Z,_,Z,cH ?_];refine#[_,Z,Z,_,Z,cH ?_];refine#[_,Z,Z,_,Z,cF ?_];have b1:=rq x 3;refine cF ?_;refine#[_,Z,_,_,Z,Z,?_,_,Z,op,_,_,_,Z,Z,aO.of ho,b8 (j:=0) rfl,a1,x,3,Z,h1,by lia,_,_,Z,Z,?_,fB 2,λq' nM=>?_]
   ·rw[tO,dX,dX];exact sz (by decide)
   ·rw[tO,ei,dX,dX];exact sz (by rw[ay];simp;lia)
   rw[tO,ei,ei];exact q q' nM
 | grow=>
  obtain⟨x,rfl,rfl⟩:=Z9 hv;have hI:(mG .grow).length<=5:=by decide
  rw[wt1] at hl;cases hA with
  | @cons a1 _ _ _ h1 r=>
   cases r;refine#[_,Z,Z,_,Z,cH ?_];refine#[_,Z,Z,_,Z,cH ?_];refine#[_,Z,Z,_,Z,cH ?_];have b1:=rq x 3;refine#[_,Z,Z,_,Z,cF ?_];refine#[_,Z,_,_,Z,Z,?_,_,Z,op,_,_,_,Z,Z,aO.of ho,b8 (j:=0) rfl,a1,x,3,Z,h1,by lia,_,_,Z,Z,?_,fB 2,λq' nM=>?_]
   ·rw[tO,dX,dX];exact sz (by decide)
   ·rw[tO,ei,dX,dX];exact sz (by rw[ay];simp;lia)
   rw[tO,ei,ei];exact q q' nM
 | sim k n=>
  obtain⟨rfl,rfl⟩:=CV hv;have hk:k < 16:=hw.1;obtain⟨n1,n2,n3,n4⟩:=Qz hk;have a1:=vD hk;have a2:=Qx hw.2.1;refine#[_,Z,Z,_,Z,pM n1 ?_];refine#[_,Z,Z,_,Z,pM n2 ?_];refine#[_,Z,Z,_,Z,pM n3 ?_];refine#[_,Z,Z,_,Z,pM n4 ?_];refine#[_,Z,_,_,Z,.inr (Y.jY.q _),Z,sr i9,_,Z,?_];show(if(pf (.str (sb (aF.getD k []))) (i9.map V.str))=true then _ else _);rw[zM,Z8 hk];have q :∀q',H q'=none->Q (.ref q') (aX H q' (.tup [.str (sb (aF.getD k []++(if 5<=k/\k<=7 then 32::mD n else []))),.int 3])):=q;refine bE (λc=>?_) (λc=>?_)
  ·rw[if_pos (of_decide_eq_true c)] at q
   have hn:n<=9:=hw.2.1;refine#[_,Z,_,_,Z,Z,?_,_,Z,_,Z,QC (show n<=1000000000 by lia),_,_,Z,Z,?_,fB 2,λq' nM=>?_]
   ·show(sb (aF.getD k [])).length+_<=_
    rw[tO,dX,dX,iq];exact sz (by lia)
   ·show((sb (aF.getD k []))++_).length+(Str.ofString (toString ((n:Nat):Int))).length<=_
    rw[tO,ei,dX,JD,dX,ay,iq];exact sz (by lia)
   have z:=q q' nM;show Q _ (aX H q' (.tup [.str ((sb (aF.getD k []))++Str.ofString " " ++ (Str.ofString (toString ((n:Nat):Int)))),.int 3]));rw[tO,ei,JD,ei];simpa using z
  rw[if_neg (λz=>c (decide_eq_true z)),b5] at q;exact#[_,Z,fB 2,λq' nM=>q q' nM]
theorem NT :∀{l:List Sp.Itm} {st s2:List (List Nat × Nat)},iw iS l st=some s2->(∀i∈l,nL i)->wt s2<=wt st+20 * l.length
 | [],st,s2,h,_=>by cases h;simp
 | i::r,st,s2,h,hw=>by
  have h':(iR iS st i).bind (iw iS r)=some s2:=h;cases e:iR iS st i with
  | none=>rw[e] at h';cases h'
  | some s1=>
   rw[e] at h';have a1:=Z6 e (hw i (by simp));have a2:=NT (l:=r) (st:=s1) h' (λj hj=>hw j (by simp[hj]));simp
   lia
theorem yr {α : Type} {f:Alg α} :∀{l:List Sp.Itm} {st s2:List α},iw f l st=some s2->s2.length<=st.length+l.length
 | [],st,s2,h=>by cases h;simp
 | i::r,st,s2,h=>by
  have h':(iR f st i).bind (iw f r)=some s2:=h;cases e:iR f st i with
  | none=>rw[e] at h';cases h'
  | some s1=>
   rw[e] at h';obtain⟨_,v,_,rfl⟩:=sV e;have a2:=yr (l:=r) h';simp at a2 ⊢
   lia
def vv (h:nJ a):(Bf a).length<=20 * (aQ a).length:=by
 have z:=NT (mm iS a []) (j8 h);rw[Bl] at z;simpa [wt] using z
theorem Paired.drop {α β : Type} {F:α->β->Prop} :∀{l:List α} {x:List β} (n:Nat),Paired F l x->Paired F (l.drop n) (x.drop n)
 | _,_,0,h=>h
 | _,_,n+1,.nil=>.nil
 | _,_,n+1,.cons _ r=>Paired.drop n r
theorem Paired.take {α β : Type} {F:α->β->Prop} :∀{l:List α} {x:List β} (n:Nat),Paired F l x->Paired F (l.take n) (x.take n)
 | _,_,0,_=>.nil
 | _,_,n+1,.nil=>.nil
 | _,_,n+1,.cons h r=>.cons h (Paired.take n r)
theorem Paired.imp {α β : Type} {F G:α->β->Prop} (k :∀a b,F a b->G a b) :∀{l:List α} {x:List β},Paired F l x->Paired G l x
 | _,_,.nil=>.nil
 | _,_,.cons h r=>.cons (k _ _ h) (Paired.imp k r)
def FO {H:Hp} {as:List Addr} {l:List Sp.Itm} (h:eV H as l) {i:Nat} {x:V} (hx:(as.map V.ref)[i]?=some x) :∃a it,x=.ref a/\l[i]?=some it/\H a=some (.tup [.str (sb (mG it)),.int (Cv it:Nat)]):=by
 rw[aA] at hx;cases e:as[i]? with
 | none=>rw[e] at hx;cases hx
 | some a=>
  rw[e] at hx;cases hx;obtain⟨it,h1,h2⟩:=Paired.get h e;exact#[a,it,Z,h1,h2]
inductive NU (vs:List V) (H:Hp) (Q:VK) (_:XK):Prop where
 | mk (p:Addr) (a:bD) (_:vs=[.ref p]) (_:gK H p (aQ a)) (_:nJ a) (_:(aQ a).length<=1000) (_ :∀H',bo H H'->Q (.str (sb (Bf a))) H')
def WN (fD:aK aL 1 T.eS (AE)) (Cg:aK aL 3 T.rb (QD)) :
  aK aL 4 T.ou (NU):=by
 refine Y.ou.F.run r6 λbx A outer s H vs Q E hr h=>?_;obtain⟨p,a,rfl,⟨as,hp,hI⟩,hw,hl,q⟩:=h;refine#[_,(aj (aZ 1 r6.nd (cO ao)) (aj (kJ PassesOwn.never rfl (fo (aa 0)) (My rfl (u7 (gu 2 r6.nd) (u7 (gu 3 r6.nd) Jh))) (aj (aZ 4 r6.nd (aJ Y.eS fD (hr.le rfl) aG (ae (aa 1) (ae (aa 2) ao)))) (aq (dC (qt (aa 1) (aJ Y.rb Cg (hr.le rfl) aG (ae (aa 2) (ae (aa 3) (ae (aa 4) ao))))))))) (aq (aD (jE (bU (aa 1) bL) bL))))),?_];refine#[bK _,λfl qJ=>?_];have NV:p≠fl:=aI hp qJ;have AF:=mm iS a [];have mh:as.length=(aQ a).length:=hI.length;refine#[_,Z,p,Z,#[_,aO.of (by rw[au NV];exact hp)],?_];refine jD (xs:=as.map V.ref) (λj σ Hc=>∃(st:List (List Nat × Nat)) (fs:List Addr) (z1 z2 z3:Option V),σ = [some (.ref p),some (.ref fl),z1,z2,z3]/\iw iS ((aQ a).take j) []=some st/\Hc fl=some (.lst (fs.map V.ref))/\Sn Hc fs st/\bo H Hc)
  #[[],[],none,none,none,Z,Z,ah,.nil,aT qJ _] (λi σ Hc _ e=>?_) (λi x σ Hc hx e=>?_) (λσ Hc e=>?_)
 ·obtain⟨_,_,_,_,_,_,_,_,_,hS⟩:=e
  exact aO.of (hS _ _ hp)
 ·obtain⟨st,fs,z1,z2,z3,rfl,e1,e2,e3,hS⟩:=e
  obtain⟨b,it,rfl,rG,hb⟩:=FO hI hx;have fW:=hS _ _ hb;obtain⟨s1,s2,r1,r2,r3⟩:=IC iS AF rG;rw[e1] at r1;cases r1;obtain⟨NW,v,hv,rfl⟩:=sV r2;have za:=j8 hw it (aP rG);have hi:i < (aQ a).length:=(az.mp rG).1;have hwt:wt st<=20000:=by
   have z:=NT e1 (λj hj=>j8 hw j (jQ hj));have:wt []=0:=rfl;rw[bJ] at z
   lia
  have Lz:fs.length=st.length:=e3.length;have fk:st.length<=20000\/True:=.inr trivial;refine#[b,_,Z,gN.of fW,Z,_,_,Z,_,_,Z,Z,?_];refine#[_,Z,_,Z,fl,it,fs.map V.ref,Z,e2,za,by rw[ai];lia,λo H' ho h1 h2 h3=>?_];rw[ai,Lz,<- lX] at h1;rw[ai,Lz,<- lY] at h2;have hof:o≠fl:=λz=>by rw[z,e2] at ho;cases ho
  have up :∀b' p',FN Hc b' p'->FN H' b' p':=λb' p' z=>by
   have zz:Hc b'=_:=z;show H' b'=_;rw[h3 b' (cN zz e2 (by intro q;cases q)) (aI zz ho)];exact zz
  have LA:Sn H' fs st:=Paired.imp up e3;have CU:bo H H':=λb' o' hh=>by
   rw[h3 b' (aI hh qJ) (aI (hS _ _ hh) ho)];exact hS _ _ hh
  have alo:wt st=wt (st.take (st.length - arity it))+wt (st.drop (st.length - arity it)):=by rw[<- NQ,ip]
  refine#[_,Z,.inl #[Z,_,aO.of h2],_,Z,_,Z,_,Z,o,fs.drop (st.length - arity it),st.drop (st.length - arity it),it,v,Z,h1,Paired.drop _ LA,by lia,za,hv,λq' nM=>?_];have sM:=aT nM (.tup [.str (sb v.1),.int (v.2:Nat)]);refine#[fl,_,Z,sM _ _ h2,?_,?_]
  ·rw[ai,bJ]
   have:st.length<=(aQ a).length:=by
    have z:=yr e1;rw[bJ] at z;simp at z
    lia
   show _ < 2 ^ 24
   lia
  have hqf:q'≠fl:=λz=>by rw[z,h2] at nM;cases nM
  refine#[_,fs.take (st.length - arity it)++[q'],_,_,_,Z,r3,by rw[ah,br];rfl,?_,λb' o' hh=>?_]
  ·have Es :∀b' p',FN (aX H' q' (.tup [.str (sb v.1),.int (v.2:Nat)])) b' p'->FN (aX (aX H' q' (.tup [.str (sb v.1),.int (v.2:Nat)])) fl (.lst ((fs.take (st.length - arity it)).map V.ref++[.ref q']))) b' p':=λb' p' z=>by
    have zz:aX H' q' (.tup [.str (sb v.1),.int (v.2:Nat)]) b'=_:=z;show aX _ _ _ b'=_;rw[au (cN zz (sM _ _ h2) (by intro q;cases q))];exact zz
   refine Paired.app (Paired.imp (λb' p' z=>Es _ _ (sM _ _ z)) (Paired.take _ LA)) (.cons (Es _ _ ?_) .nil);exact ah
  rw[au (aI hh qJ)];exact sM _ _ (CU _ _ hh)
 obtain⟨st,fs,z1,z2,z3,rfl,e1,e2,e3,hS⟩:=e;rw[ai,mh,cq,AF,Bl] at e1;cases e1;cases e3 with
 | @cons b _ _ _ h1 r=>
  cases r;refine#[_,Z,fl,_,_,_,Z,Z,aO.of e2,b8 (j:=0) rfl,b,_,_,_,Z,Z,gN.of h1,b8 (j:=0) rfl,?_];exact q Hc hS
structure g7 (s:cC):Prop where
 act:s.act < 6
 n:s.n<=99
 set:s.act=4->s.n < 5
 area:nJ s.area/\(aQ s.area).length<=301
 cond :∀c,s.cond=some c->nJ c/\(aQ c).length<=301
theorem Sq (h:AR mode d acc t=.ok (a,r)) (hw:nJ acc):nJ a:=mY _ _ _ _ _ _ _ hw h
def LB {lo hi n:Nat} {t r:bF} (h:jm lo hi t=.ok (n,r)):n<=hi:=by
 unfold jm at h;split at h
 ·split at h
  ·rename_i h1
   cases h;exact h1.2
  cases h
 unfold cV at h;cases h
def WO {i n:Nat} {t r:bF} (h:gS i t=.ok (n,r)):n<=99/\(i=4->n < 5):=by
 unfold gS at h;split at h
 ·exact#[LB h,λz=>by lia]
 split at h
 ·have:=LB h
  exact#[by lia,λz=>by lia]
 split at h
 ·split at h
  ·split at h
   ·rename_i g hg
    cases h;obtain⟨wx,_,_⟩:=dv.mp hg;have:n < 5:=by simpa [fA] using wx
    exact#[by lia,λ_=>this]
   unfold cV at h;cases h
  unfold cV at h;cases h
 cases h;exact#[bK _,λ_=>by lia]
def aaa (h:ff t=.ok (s,r)) (hl:t.length<=301):g7 s:=by
 unfold ff at h;split at h
 ·rename_i u p r0
  split at h
  ·unfold cV at h;cases h
  rename_i i hi;split at h
  ·cases h
  rename_i n s0 e1;have l1:=zk e1;have an:=WO e1;have hi6:=(Uy hi).1;simp at hl;split at h
  ·unfold cV at h;cases h
  split at h
  ·cases h
  rename_i a t2 e2;rw[pZ] at e2;have w2:=Sq e2 #[by decide,by decide,.inl rfl];have i2:=eu _ _ _ _ _ _ _ e2;have l2:=zR e2;simp[Sp.less] at i2 l2;split at h
  ·cases h
   exact#[hi6,an.1,an.2,#[w2,by show(aQ a).length<=301;lia],λc hc=>by cases hc]
  split at h
  ·cases h
  rename_i c t3 e3;rw[pZ] at e3;have w3:=Sq e3 #[by decide,by decide,.inl rfl];have i3:=eu _ _ _ _ _ _ _ e3;simp at i3;cases h;refine#[hi6,an.1,an.2,#[w2,by show(aQ a).length<=301;lia],λc' hc=>?_];cases hc;exact#[w3,by lia]
 unfold cV at h;cases h
theorem NX :∀(n:Nat) (t:bF) (sp:cz),t.length<=n->n<=301->SR t=.ok sp->sp.length<=n/\sp≠[]/\∀s∈sp,g7 s
 | 0,t,sp,hn,_,h=>by
  have:t=[]:=fP.mp (by lia);subst this;rw[Rw] at h;cases h
 | n+1,t,sp,hn,hm,h=>by
  rw[Gu] at h;cases e:ff t with
  | error z=>rw[e] at h;cases h
  | ok z=>
   obtain⟨s,r⟩:=z;rw[e] at h;have l:=sU e;have w:=aaa e (by lia);dsimp only at h;cases er:restOf r with
   | error z=>rw[er] at h;cases h
   | ok l'=>
    rw[er] at h;cases h;unfold restOf at er;split at er
    ·cases er
     exact#[by simp,by simp,λx hx=>by rw[fu.mp hx];exact w]
    split at er
    ·unfold cV at er;cases er
    have ih:=NX n (r.drop 1) l' (by simp;lia) (by lia) er;refine#[by simp;exact ih.1,by simp,λx hx=>?_];rcases bS.mp hx with rfl | hx
    ·exact w
    exact ih.2.2 x hx
def JE:(fA.getD n []).length<=5:=by
 match n with
 | 0 | 1 | 2 | 3 | 4=>decide
 | j+5=>exact bK _
def QF:(mi.getD n []).length<=5:=by
 match n with
 | 0 | 1 | 2 | 3 | 4 | 5=>decide
 | j+6=>exact bK _
def NY (h:n<=99):(mD n).length<=2:=by
 have :∀k:Fin 100,(mD k.1).length<=2:=by decide
 exact this #[n,by lia]
def FP (s:cC):List Nat:=mi.getD s.act []++(if s.act<=3 then 32::mD s.n else if s.act=4 then 32::fA.getD s.n [] else [])
def Ie (h:g7 s):(FP s).length<=11:=by
 unfold FP;have a1:=QF (n:=s.act);have a2:=JE (n:=s.n);have a3:=NY h.n;rw[ay];split
 ·rw[aV];lia
 split
 ·rw[aV];lia
 simp only[ie];lia
def AG (s:cC):dn s=FP s++(bw " on " ++ (Bf s.area++(match s.cond with
  | some c=>bw " when " ++ Bf c
  | none=>[]))):=by
 unfold dn FP;rw[gm];rfl
def NZ (h:g7 s):(dn s).length<=12100:=by
 rw[AG];have a1:=Ie h;have a2:=vv h.area.1;have a3:=h.area.2;have e1:(bw " on ").length=4:=rfl;have e2:(bw " when ").length=6:=rfl;rw[ay,ay,ay];cases hc:s.cond with
 | none=>simp only[ie];lia
 | some c=>
  have a4:=vv (h.cond c hc).1;have a5:=(h.cond c hc).2;simp only[ay]
  lia
inductive QH (vs:List V) (H:Hp) (Q:VK) (_:XK):Prop where
 | mk (a:Addr) (s:cC) (_:vs=[.ref a]) (_:du H a s) (_:g7 s) (_:Q (.str (sb (FP s))) H)
def aab:aK aL 1 T.tj (QH):=by
 refine Y.tj.F.run Pa λbx A outer s H vs Q E hr h=>?_;obtain⟨a,st,rfl,⟨dx,p,wv,ha,_,_⟩,hw,q⟩:=h;refine#[_,(aj (bG (dg (aW (aa 0)) dB) (aq (aD (aW (aa 0)))) bp) (aj (bG (dg (aW (aa 0)) dB) (aq (aD (kb (kb (aW (aa 0)) dB) (jE (mX Y.fR.m) (aW (aa 0)))))) bp) (aq (aD (kb (kb (aW (aa 0)) dB) (Ys Y.YA (aW (aa 0)))))))),?_];have tO:Str.ofString " " = sb [32]:=rfl;have la:=QF (n:=st.act);refine#[_,Z,a,_,dx,_,_,Z,ha,Y.bI.cl,Y.dO,Z,Z,_,Z,bE (λc=>?_) (λc=>?_)]
 ·have h5:=(qj hw.act).mp (V.str.inj (of_decide_eq_true c))
  refine#[_,Z,a,_,dx,_,_,Z,ha,Y.bI.cl,Y.dO,Z,?_];unfold FP at q;rw[if_neg (by lia),if_neg (by lia),b5] at q;exact q
 have h5:st.act≠5:=λz=>c (decide_eq_true (congrArg V.str ((qj hw.act).mpr z)));refine#[_,Z,a,_,dx,_,_,Z,ha,Y.bI.cl,Y.dO,Z,Z,_,Z,bE (λc=>?_) (λc=>?_)]
 ·have h4:=(vo hw.act).mp (V.str.inj (of_decide_eq_true c))
  have hn:=hw.set h4;have lg:=JE (n:=st.n);refine#[_,Z,a,_,dx,_,_,Z,ha,Y.bI.cl,Y.dO,Z,_,_,Z,Z,?_,_,Z,a,_,dx,_,_,Z,ha,Y.bI.cl,Y.el,Z,T.fR,_,_,.str (sb (fA.getD st.n [])),Z,Z,Y.fR.q _,?_,_,_,Z,Z,?_,?_]
  ·unfold iQ;rw[tO,dX,dX,iq];exact sz (by lia)
  ·refine b8 (j:=st.n) ?_
   show(dP.map V.str)[st.n]?=_;rw[Cd,aA,bY];have hg:st.n < fA.length:=by simpa [fA] using hn
   rw[aw hg];rfl
  ·unfold iQ;rw[tO,ei,dX,dX,ay,iq];exact sz (by lia)
  unfold iQ;rw[tO,ei,ei];unfold FP at q;rw[if_neg (by lia),if_pos h4] at q;simpa using q
 have h4:st.act≠4:=λz=>c (decide_eq_true (congrArg V.str ((vo hw.act).mpr z)));have hn:=hw.n;have ld:=NY hn;have h6:=hw.act;refine#[_,Z,a,_,dx,_,_,Z,ha,Y.bI.cl,Y.dO,Z,_,_,Z,Z,?_,_,Z,a,_,dx,_,_,Z,ha,Y.bI.cl,Y.el,Z,_,Z,QC (show st.n<=1000000000 by lia),_,_,Z,Z,?_,?_]
 ·unfold iQ;rw[tO,dX,dX,iq];exact sz (by lia)
 ·unfold iQ;rw[tO,ei,dX,JD,dX,ay,iq];exact sz (by lia)
 unfold iQ;rw[tO,ei,JD,ei];unfold FP at q;rw[if_pos (by lia)] at q;simpa using q
def Sr :∀sp:cz,Txt.join ("; " : Str) (sp.map λs=>sb (dn s))=sb (eK sp):=by
 intro sp;rw[show Txt.join ("; " : Str) (sp.map λs=>sb (dn s))=Str.join ("; " : Str) (sp.map λs=>sb (dn s)) from PySem.StrLaws.glued_eq_join _ _]
 induction sp with
 | nil=>rfl
 | cons s r ih=>
  cases r with
  | nil=>rfl
  | cons d r'=>
   rw[cv,cv];rw[cv] at ih;rw[Str.join,ih,eA,ei,ei]
   ·show sb ((dn s++bw "; ")++eK (d::r'))=sb (dn s++(bw "; " ++ eK (d::r')))
    rw[gm]
   intro z;cases z
def yt {l:List Nat} {n:Nat} (h :∀x∈l,x<=n):l.sum<=n * l.length:=by
 induction l with
 | nil=>simp
 | cons a r ih=>
  have h1:=h a (by simp);have h2:=ih λx hx=>h x (by simp[hx]);rw[Ez,aV,Nat.mul_add]
  lia
inductive N0 (vs:List V) (H:Hp) (Q:VK) (_:XK):Prop where
 | mk (a:Addr) (s:cC) (_:vs=[.ref a]) (_:du H a s) (_:g7 s) (_ :∀H',bo H H'->Q (.str (sb (dn s))) H')
def WQ (DQ:aK aL 1 T.tj (QH)) (x8:aK aL 4 T.ou (NU)) :
  aK aL 5 T.ra (N0):=by
 refine Y.ra.F.run Ak λbx A outer s H vs Q E hr h=>?_;obtain⟨a,st,rfl,Eu,hw,q⟩:=h;obtain⟨dx,p,wv,ha,hA,hc⟩:=id Eu;refine#[_,(aj (aZ 1 Ak.nd (kb (kb (aJ Y.tj DQ (hr.le rfl) aG (ae (aa 0) ao)) dB) (aJ Y.ou x8 (hr.le rfl) aG (ae (aW (aa 0)) ao)))) (aj (bG (E7 (aW (aa 0))) (aq (aZ 1 Ak.nd (kb (kb (aa 1) dB) (aJ Y.ou x8 (hr.le rfl) aG (ae (aW (aa 0)) ao))))) bp) (aq (aD (aa 1))))),?_];have l1:=Ie hw;have l2:=vv hw.area.1;have l3:=hw.area.2;have e1:(bw " on ").length=4:=rfl;have e2:(bw " when ").length=6:=rfl;rw[AG] at q;refine#[_,Z,a,st,Z,Eu,hw,_,_,Z,Z,?_,_,Z,a,_,dx,_,_,Z,ha,Y.bI.cl,Y.me,Z,p,st.area,Z,hA,hw.area.1,by lia,λH1 s1=>?_]
 ·rw[dX,text_len];exact sz (by lia)
 refine#[_,_,Z,Z,?_,?_]
 ·rw[eA,ei,dX,dX,ay];exact sz (by lia)
 rw[eA " on ",ei,ei];have yu:=s1 _ _ ha;refine#[_,Z,a,_,dx,_,_,Z,yu,Y.bI.cl,Y.iE,Z,_,Z,?_];cases rF:st.cond with
 | none=>
  rw[rF] at hc q;cases hc;refine cH #[_,Z,?_];have z:=q H1 s1;simpa using z
 | some c=>
  rw[rF] at hc q;obtain⟨p',rfl,UL⟩:=hc;obtain⟨wc,lc⟩:=hw.cond c rF;have l4:=vv wc;refine cF ?_;refine#[_,Z,_,_,Z,Z,?_,_,Z,a,_,dx,_,_,Z,yu,Y.bI.cl,Y.iE,Z,p',c,Z,UL.same s1,wc,by lia,λH2 s2=>?_]
  ·rw[dX,text_len];exact sz (by simp only[ay];lia)
  refine#[_,_,Z,Z,?_,?_]
  ·rw[eA,ei,dX,dX];exact sz (by simp only[ay];lia)
  refine#[_,Z,?_];rw[eA " when ",ei,ei];have z:=q H2 (s1.trans s2);simpa using z
inductive N1 (vs:List V) (H:Hp) (Q:VK) (_:XK):Prop where
 | mk (p:Addr) (as:List Addr) (sp:cz) (_:vs=[.ref p]) (_:H p=some (.lst (as.map V.ref))) (_:hZ H as sp) (_:(∀s∈sp,g7 s)) (_:sp.length<=301) (_ :∀H',bo H H'->Q (.str (sb (eK sp))) H')
def JF {H:Hp} {as:List Addr} {l:cz} (h:hZ H as l) {i:Nat} {x:V} (hx:(as.map V.ref)[i]?=some x) :∃a s,x=.ref a/\l[i]?=some s/\du H a s:=by
 rw[aA] at hx;cases e:as[i]? with
 | none=>rw[e] at hx;cases hx
 | some a=>
  rw[e] at hx;cases hx;obtain⟨s,h1,h2⟩:=Paired.get h e;exact#[a,s,Z,h1,h2]
def WR (Ci:aK aL 5 T.ra (N0)) :
  aK aL 6 T.pE (N1):=by
 refine Y.pE.F.run yG λbx A outer s H vs Q E hr h=>?_;obtain⟨p,as,sp,rfl,hp,hS,hw,hl,q⟩:=h;refine#[_,(aq (aD (Ub dB (lP [("step",1)] rfl yG.nd (fo (aa 0)) (dJ rfl) (λ_ _ _ _ _=>(gu 1 yG.nd)) (λ_ _ _ _ _=>gO) (λ_ _ _ _ _=>(aJ Y.ra Ci (hr.le rfl) aG (ae (aa 1) ao))))))),?_];have mh:as.length=sp.length:=hS.length;refine#[#[_,Z],_,Z,p,Z,#[_,aO.of hp],λD hD=>?_];have ne:p≠D:=aI hp hD;refine qX (xs:=as.map V.ref) (λi H'=>bo H H'/\H' D=some (.lst ((sp.take i).map λs=>V.str (sb (dn s))))) #[aT hD _,ah] (λi H' _ e=>aO.of (e.1 _ _ hp)) (λi x H' hx e=>?_) (λH' e=>?_)
 ·obtain⟨a,st,rfl,fk,hA⟩:=JF hS hx
  have hi:i < sp.length:=(az.mp fk).1;refine#[Z,xD ?_];refine#[_,Z,a,st,Z,du.same e.1 hA,hw st (aP fk),λH2 s2=>?_];refine#[_,s2 _ _ e.2,?_,λb o hb=>?_,?_]
  ·rw[ai,bJ];show _ < 2 ^ 24;lia
  ·rw[au (aI hb hD)];exact s2 _ _ (e.1 _ _ hb)
  rw[ah,bW,fk,br];rfl
 refine#[_,D,sp.map λs=>sb (dn s),Z,Z,.inl (aO.of ?_),?_,?_]
 ·rw[e.2,ai,mh,cq,bB];rfl
 ·rw[bB,ai]
  have z:=yt (l:=sp.map ((λx:Str=>x.length) ∘ λs=>sb (dn s))) (n:=12100) (λx hx=>by
   obtain⟨s,hs,rfl⟩:=bX.mp hx;show(sb _).length<=_;rw[dX];exact NZ (hw s hs))
  rw[ai] at z;rw[show(Str.ofString "; ").length=2 from rfl]
  lia
 rw[Sr];exact q _ e.1
def Ss (hk:k < 16) (hj:j < 16):decide (V.str (sb (aF.getD k []))=V.str (sb (aF.getD j [])))=decide (k=j):=by
 have :∀a b:Fin 16,decide (V.str (sb (aF.getD a.1 []))=V.str (sb (aF.getD b.1 [])))=decide (a.1=b.1):=by decide
 exact this #[k,hk] #[j,hj]
theorem nm (hk:k < 16) (hj:j < 16) (h:decide (V.str (sb (aF.getD k []))=V.str (sb (aF.getD j [])))=true):k=j:=of_decide_eq_true ((Ss hk hj).symm.trans h)
theorem nn (hk:k < 16) (hj:j < 16) (h:¬ decide (V.str (sb (aF.getD k []))=V.str (sb (aF.getD j [])))=true):k≠j:=λz=>h ((Ss hk hj).trans (decide_eq_true z))
def N2 (h:k < 16):dP.contains (sb (aF.getD k []))=decide (8<=k/\k<=12):=by
 match k,h with
 | 0,_ | 1,_ | 2,_ | 3,_ | 4,_ | 5,_ | 6,_ | 7,_ | 8,_ | 9,_ | 10,_ | 11,_ | 12,_ | 13,_ | 14,_ | 15,_=>rfl
 | j+16,h=>lia
def vw (a b:Nat):(if((b:Nat):Int) < (a:Nat) then((b:Nat):Int) else(a:Nat))=((min a b:Nat):Int):=by
 by_cases h:b < a
 ·rw[if_pos (by lia),Bg (by lia)]
 rw[if_neg (by lia),jP (by lia)]
inductive LC (vs:List V) (H:Hp) (Q:VK) (_:XK):Prop where
 | mk (k n x y:Nat) (_:vs=[.str (sb (aF.getD k [])),.int (n:Nat),.int (x:Nat),.int (y:Nat)]) (_:k < 16) (_:n<=9) (_:(n=0\/(5<=k/\k<=7))) (_:1<=x) (_:1<=y) (_:x<=1000) (_:y<=1000) (_:Q (.int (jh x y (.basic k n):Nat)) H)
def UM:aK aL 1 T.my (LC):=by
 refine Y.my.F.run vZ λbx A outer s H vs Q E hr h=>?_;obtain⟨k,n,x,y,rfl,hk,hn,X9,E4,QJ,hx,hy,q⟩:=h;refine#[_,(aj (aZ 4 vZ.nd (mT (aa 2) (aa 3))) (aj (bG (qK (w_or (dg (aa 0) dB) (oX (HR (aa 0) (mX Y.fR.m))))) (aq (aD (aa 4))) bp) (aj (bG (qK (w_or (dg (aa 0) dB) (oX (dg (aa 0) dB)))) (aq (aD (vT Y.uC rfl (iX (aa 2) (aa 3)) (aa 4)))) bp) (aj (bG (qK (w_and (dg (aa 0) dB) (vR (Kh (aa 1) bL)))) (aq (aD (vT Y.uC rfl (mT bL (aa 1)) (aa 4)))) bp) (aj (bG (qK (w_or (dg (aa 0) dB) (w_or (dg (aa 0) dB) (oX (dg (aa 0) dB))))) (aq (aD (vT Y.uC rfl (df Y.Ep) (aa 4)))) bp) (aj (aZ 5 vZ.nd (iX (mT bL (aa 1)) bL)) (aq (aD (mT (vT Y.uC rfl (aa 2) (aa 5)) (vT Y.uC rfl (aa 3) (aa 5))))))))))),?_];have di :∀(m:Nat) (z:Int),jh x y (.basic k n)=m->z=((m:Nat):Int)->Q (.int z) H:=by
  rintro m _ rfl rfl;exact q
 refine#[_,Z,_,Z,_,_,Z,Z,.inl (by lia),?_];refine#[_,Z,Z,_,Z,bE (λc=>?_) (λc=>?_)]
 ·have h4:k=4:=nm (j:=4) hk (by decide) c
  subst h4;exact cF #[_,Z,di (x * y) _ rfl rfl]
 have h4:k≠4:=nn (j:=4) hk (by decide) c;refine#[_,Z,_,_,Z,.inr (Y.fR.q _),Z,sr dP,_,Z,?_];show(if(pf (.str (sb (aF.getD k []))) (dP.map V.str))=true then _ else _);rw[zM,N2 hk];refine bE (λc=>?_) (λc=>?_)
 ·have hg:8<=k/\k<=12:=of_decide_eq_true c
  refine#[_,Z,di (x * y) _ ?_ rfl];unfold jh;rw[if_neg (by lia),if_neg (by lia),if_neg (by lia),if_neg (by lia),if_neg (by lia),if_pos (by lia)]
 have hg:¬ (8<=k/\k<=12):=λz=>c (decide_eq_true z);have line:(k=2\/k=3)->ql (t2 Bw (gI (oQ λi j=>V.int (i+j)) (bR 2) (bR 3)) (bR 4)) { nx:=λ_ _=>False,rt:=Q } [some (.str (sb (aF.getD k []))),some (.int (n:Nat)),some (.int (x:Nat)),some (.int (y:Nat)),some (.int ((x:Int) * (y:Int))),none] H:=λh=>by
  refine#[_,Z,_,Z,_,_,Z,Z,_,Z,_,_,Z,Z,di (min (x+y) (x * y)) _ ?_ (vw (x+y) (x * y))];unfold jh;rw[if_neg (by lia),if_pos (by lia)]
 refine#[_,Z,Z,_,Z,bE (λc=>?_) (λc=>?_)]
 ·exact cF (line (.inl (nm (j:=2) hk (by decide) c)))
 have h2:k≠2:=nn (j:=2) hk (by decide) c;refine#[_,Z,Z,_,Z,bE (λc=>?_) (λc=>?_)]
 ·exact line (.inr (nm (j:=3) hk (by decide) c))
 have h3:k≠3:=nn (j:=3) hk (by decide) c;have je:(k=6->n=0)->rC (HH
           (XW (oV (gI PK (bR 0) (tC (V.str (Str.ofString "beings")))))
            (XW (oV (gI PK (bR 0) (tC (V.str (Str.ofString "foes")))))
             (oV (gI PK (bR 0) (tC (V.str (Str.ofString "friends")))))))
           (ql (t2 Bw (tC (V.int 8)) (bR 4))) Dk)
          (rC
           (vN
            (gI (oQ λi j=>V.int (i+j))
             (gI (rI Dn λi j=>V.int (i * j)) (tC (V.int 2)) (bR 1)) (tC (V.int 1)))
            (l5 5))
           (ql
            (gI (rI Dn λi j=>V.int (i * j)) (t2 Bw (bR 2) (bR 5))
             (t2 Bw (bR 3) (bR 5))))) { nx:=λ_ H'=>Q V.cj H',rt:=Q } [some (.str (sb (aF.getD k []))),some (.int (n:Nat)),some (.int (x:Nat)),some (.int (y:Nat)),some (.int ((x:Int) * (y:Int))),none] H:=λh6=>by
  have many:13<=k->ql (t2 Bw (tC (V.int 8)) (bR 4)) { nx:=λ_ _=>False,rt:=Q } [some (.str (sb (aF.getD k []))),some (.int (n:Nat)),some (.int (x:Nat)),some (.int (y:Nat)),some (.int ((x:Int) * (y:Int))),none] H:=λh=>by
   refine#[_,Z,_,_,Z,Z,di (min 8 (x * y)) _ ?_ (vw 8 (x * y))];unfold jh;rw[if_neg (by lia),if_neg (by lia),if_neg (by lia),if_neg (by lia),if_neg (by lia),if_neg (by lia)];rfl
  refine#[_,Z,Z,_,Z,bE (λc=>?_) (λc=>?_)]
  ·exact cF (many (by have:=nm (j:=13) hk (by decide) c;lia))
  have YJ:=nn (j:=13) hk (by decide) c;refine#[_,Z,Z,_,Z,bE (λc=>?_) (λc=>?_)]
  ·exact cF (many (by have:=nm (j:=14) hk (by decide) c;lia))
  have h14:=nn (j:=14) hk (by decide) c;refine#[_,Z,Z,_,Z,bE (λc=>?_) (λc=>?_)]
  ·exact many (by have:=nm (j:=15) hk (by decide) c;lia)
  have h15:=nn (j:=15) hk (by decide) c;refine#[_,Z,_,_,Z,Z,.inl (by lia),_,_,Z,Z,?_];refine#[_,Z,_,Z,_,_,Z,Z,_,Z,_,Z,_,_,Z,Z,_,_,Z,Z,?_,?_]
  ·exact .inl (by split <;> lia)
  refine di (min x (2 * n+1) * min y (2 * n+1)) _ ?_ ?_
  ·unfold jh
   by_cases wx:k<=1
   ·have:n=0:=by lia
    subst this;rw[if_pos wx,Bg (by lia),Bg (by lia)]
   rw[if_neg wx,if_neg (by lia),if_neg h4,if_neg (by lia),if_pos (by lia)]
  have e1:=vw x (2 * n+1);have e2:=vw y (2 * n+1);rw[wQ,<- e1,<- e2];rfl
 refine#[_,Z,Z,_,Z,bE (λc=>?_) (λc=>?_)]
 ·have h6:k=6:=nm (j:=6) hk (by decide) c
  refine#[_,Z,_,_,Z,Z,_,Z,bE (λc=>?_) (λc=>?_)]
  ·have hn0:(0:Int) < (n:Nat):=of_decide_eq_true c
   refine#[_,Z,_,_,Z,Z,.inl (by lia),_,Z,_,_,Z,Z,di (min (8 * n) (x * y)) _ ?_ (vw (8 * n) (x * y))];unfold jh;rw[if_neg (by lia),if_neg (by lia),if_neg h4,if_pos (by lia)]
  have hn0:¬ (0:Int) < (n:Nat):=λz=>c (decide_eq_true z);exact je (λ_=>by lia)
 have h6:k≠6:=nn (j:=6) hk (by decide) c;exact cH (je (λz=>absurd z h6))
def aac (b:List Nat) (n:Nat):(vi b).drop n=vi (b.drop n):=by unfold vi;rw[lX]
def aad (b:List Nat) (n:Nat):(vi b).take n=vi (b.take n):=by unfold vi;rw[lY]
def adt (a b:List Nat):vi (a++b)=vi a++vi b:=by unfold vi;rw[br]
def FQ {α : Type} {f:Alg α} {v:α} {ops:List α} (h:uY f .no ops=some v) :∃x,ops=[x]/\v=f.no x:=by
 match ops with
 | [x]=>cases h;exact#[x,Z,Z]
 | []=>cases h
 | _::_::_=>cases h
def AH {α : Type} {f:Alg α} {v:α} {ops:List α} (h:uY f .grow ops=some v) :∃x,ops=[x]/\v=f.grow x:=by
 match ops with
 | [x]=>cases h;exact#[x,Z,Z]
 | []=>cases h
 | _::_::_=>cases h
inductive LD (vs:List V) (H:Hp) (Q:VK) (_:XK):Prop where
 | mk (op:Addr) (it:Sp.Itm) (iI:List Nat) (x y v:Nat) (_:vs=[.str (sb (mG it)),.ref op,.int ((x * y:Nat):Nat)]) (_:H op=some (.lst (vi iI))) (_:arity it≠0) (_:uY (vH x y) it iI=some v) (_:Q (.int (v:Nat)) H)
def UN:aK aL 1 T.ko (LD):=by
 refine Y.ko.F.run GG λbx A outer s H vs Q E hr h=>?_;obtain⟨op,it,iI,x,y,v,rfl,ho,NW,hv,q⟩:=h;refine#[_,(aj (bG (dg (aa 0) dB) (aq (aD (aa 2))) bp) (aj (bG (dg (aa 0) dB) (aq (aD (vT Y.uC rfl (mT bL (bU (aa 1) bL)) (aa 2)))) bp) (aj (bG (dg (aa 0) dB) (aq (aD (vT Y.uC rfl (bU (aa 1) bL) (bU (aa 1) bL)))) bp) (aq (aD (vT Y.uC rfl (iX (bU (aa 1) bL) (bU (aa 1) bL)) (aa 2))))))),?_];have di :∀(z:Int),z=((v:Nat):Int)->Q (.int z) H:=by
  rintro _ rfl;exact q
 cases it with
 | sim k n=>exact absurd rfl NW
 | no=>
  obtain⟨a,rfl,rfl⟩:=FQ hv;exact#[_,Z,Z,_,Z,cF #[_,Z,q]]
 | grow=>
  obtain⟨a,rfl,rfl⟩:=AH hv;refine#[_,Z,Z,_,Z,cH ?_];refine#[_,Z,Z,_,Z,cF ?_];refine#[_,Z,op,_,_,_,Z,Z,aO.of ho,qD (i:=0) rfl,_,_,Z,Z,.inl (by lia),_,Z,_,_,Z,Z,di _ (vw (9 * a) (x * y))]
 | both=>
  obtain⟨a,b,rfl,rfl⟩:=zN hv;refine#[_,Z,Z,_,Z,cH ?_];refine#[_,Z,Z,_,Z,cH ?_];refine#[_,Z,Z,_,Z,cF ?_];refine#[_,Z,op,_,_,_,Z,Z,aO.of ho,qD (i:=0) rfl,_,Z,op,_,_,_,Z,Z,aO.of ho,qD (i:=1) rfl,_,_,Z,Z,di _ (vw a b)]
 | either=>
  obtain⟨a,b,rfl,rfl⟩:=vt hv;refine#[_,Z,Z,_,Z,cH ?_];refine#[_,Z,Z,_,Z,cH ?_];refine#[_,Z,Z,_,Z,cH ?_];refine#[_,Z,op,_,_,_,Z,Z,aO.of ho,qD (i:=0) rfl,_,Z,op,_,_,_,Z,Z,aO.of ho,qD (i:=1) rfl,_,_,Z,Z,_,Z,_,_,Z,Z,di _ (vw (a+b) (x * y))]
inductive FR (vs:List V) (H:Hp) (Q:VK) (_:XK):Prop where
 | mk (p:Addr) (a:bD) (x y:Nat) (_:vs=[.ref p,.int (x:Nat),.int (y:Nat)]) (_:gK H p (aQ a)) (_:nJ a) (_:(aQ a).length<=1000) (_:1<=x) (_:1<=y) (_:x<=1000) (_:y<=1000) (_ :∀H',bo H H'->Q (.int (jh x y a:Nat)) H')
def UO (fD:aK aL 1 T.eS (AE)) (uP:aK aL 1 T.ko (LD))
  (xF:aK aL 1 T.my (LC)) :
  aK aL 2 T.kU (FR):=by
 refine Y.kU.F.run qM λbx A outer s H vs Q E hr h=>?_;obtain⟨p,a,x,y,rfl,⟨as,hp,hI⟩,hw,hl,E4,QJ,hx,hy,q⟩:=h;refine#[_,(aj (aZ 3 qM.nd (cO ao)) (aj (kJ PassesOwn.never rfl (fo (aa 0)) (My rfl (u7 (gu 4 qM.nd) (u7 (gu 5 qM.nd) Jh))) (aj (aZ 6 qM.nd (aJ Y.eS fD (hr.le rfl) aG (ae (aa 3) (ae (aa 4) ao)))) (aq (bG (Ji (aa 6)) (aq (dC (qt (aa 3) (aJ Y.ko uP (hr.le rfl) aG (ae (aa 4) (ae (aa 6) (ae (mT (aa 1) (aa 2)) ao))))))) (aq (dC (qt (aa 3) (aJ Y.my xF (hr.le rfl) aG (ae (aa 4) (ae (aa 5) (ae (aa 1) (ae (aa 2) ao)))))))))))) (aq (aD (bU (aa 3) bL))))),?_];refine#[bK _,λfl qJ=>?_];have NV:p≠fl:=aI hp qJ;have AF:=mm (vH x y) a [];have mh:as.length=(aQ a).length:=hI.length;refine#[_,Z,p,Z,#[_,aO.of (by rw[au NV];exact hp)],?_];refine jD (xs:=as.map V.ref) (λj σ Hc=>∃(st:List Nat) (z1 z2 z3:Option V),σ = [some (.ref p),some (.int (x:Nat)),some (.int (y:Nat)),some (.ref fl),z1,z2,z3]/\iw (vH x y) ((aQ a).take j) []=some st/\Hc fl=some (.lst (vi st))/\bo H Hc)
  #[[],none,none,none,Z,Z,ah,aT qJ _] (λi σ Hc _ e=>?_) (λi xx σ Hc UP e=>?_) (λσ Hc e=>?_)
 ·obtain⟨_,_,_,_,_,_,_,hS⟩:=e
  exact aO.of (hS _ _ hp)
 ·obtain⟨st,z1,z2,z3,rfl,e1,e2,hS⟩:=e
  obtain⟨b,it,rfl,rG,hb⟩:=FO hI UP;have fW:=hS _ _ hb;obtain⟨s1,s2,r1,r2,r3⟩:=IC (vH x y) AF rG;rw[e1] at r1;cases r1;obtain⟨NW,v,hv,rfl⟩:=sV r2;have za:=j8 hw it (aP rG);have hi:i < (aQ a).length:=(az.mp rG).1;have fk:st.length<=1000:=by
   have z:=yr e1;rw[bJ] at z;simp at z
   lia
  refine#[b,_,Z,gN.of fW,Z,_,_,Z,_,_,Z,Z,?_];refine#[_,Z,_,Z,fl,it,vi st,Z,e2,za,by rw[iz];lia,λo H' ho h1 h2 h3=>?_];rw[iz,aac] at h1;rw[iz,aad] at h2;have CU:bo H H':=λb' o' hh=>by
   rw[h3 b' (aI hh qJ) (aI (hS _ _ hh) ho)];exact hS _ _ hh
  have di :∀z1 z2 z3,∃jX,∃UQ N3 UR:Option V,[some (.ref p),some (.int (x:Nat)),some (.int (y:Nat)),some (.ref fl),z1,z2,z3]=[some (.ref p),some (.int (x:Nat)),some (.int (y:Nat)),some (.ref fl),UQ,N3,UR]/\iw (vH x y) ((aQ a).take (i+1)) []=some jX/\aX H' fl (.lst (vi (st.take (st.length - arity it))++[.int (v:Nat)])) fl=some (.lst (vi jX))/\bo H (aX H' fl (.lst (vi (st.take (st.length - arity it))++[.int (v:Nat)]))):=λz1 z2 z3=>by
   refine#[_,z1,z2,z3,Z,r3,?_,λb' o' hh=>?_]
   ·rw[ah,adt];rfl
   rw[au (aI hh qJ)];exact CU _ _ hh
  have hsz:(vi (st.take (st.length - arity it))).length < sizeLine:=by
   rw[iz,bJ];show _ < 2 ^ 24
   lia
  have P7:(!(vi (st.drop (st.length - arity it))).isEmpty)=decide (arity it≠0):=by
   have hle:(vi (st.drop (st.length - arity it))).length=arity it:=by rw[iz,dk];lia
   cases h:vi (st.drop (st.length - arity it)) with
   | nil=>rw[h] at hle;simp at hle;simp[<- hle]
   | cons a r=>rw[h] at hle;simp at hle;simp[<- hle]
  refine#[_,Z,_,.inl #[_,aO.of h1,Z],bE (λc=>?_) (λc=>?_)]
  ·rw[P7] at c
   have cG:arity it≠0:=of_decide_eq_true c;refine#[_,Z,.inl #[Z,_,aO.of h2],_,Z,_,Z,_,Z,_,Z,_,_,Z,Z,.inl (by lia),o,it,st.drop (st.length - arity it),x,y,v,Z,h1,cG,hv,?_];exact#[fl,_,Z,h2,hsz,di _ _ _]
  rw[P7] at c;cases it with
  | sim k n=>
   obtain⟨_,rfl⟩:=CV hv;refine#[_,Z,.inl #[Z,_,aO.of h2],_,Z,_,Z,_,Z,_,Z,k,n,x,y,Z,za.1,za.2.1,za.2.2,E4,QJ,hx,hy,?_];exact#[fl,_,Z,h2,hsz,di _ _ _]
  | _=>exact absurd (decide_eq_true (by simp[arity])) c
 obtain⟨st,z1,z2,z3,rfl,e1,e2,hS⟩:=e;rw[ai,mh,cq,AF,Gg] at e1;cases e1;exact#[_,Z,fl,_,_,_,Z,Z,aO.of e2,qD (i:=0) rfl,q Hc hS]
def DR (h:i < 6):iQ i = "hurt"↔i=0:=by
 match i,h with
 | 0,_ | 1,_ | 2,_ | 3,_ | 4,_ | 5,_=>simp only[iQ,eA,CT];decide
 | j+6,h=>lia
def WS (x y:Nat) (l:cz):((l.map λs=>((rP x y s:Nat):Int)).sum)=((cW x y l:Nat):Int):=by
 unfold cW;have :∀(l:List Nat) (a:Nat),((l.foldl (λa b=>a+b) a:Nat):Int)=(a:Int)+(l.map λn=>((n:Nat):Int)).sum:=by
  intro l
  induction l with
  | nil=>intro a;simp
  | cons b r ih=>intro a;rw[fT,ih,cv,Ez];push_cast;lia
 rw[this,bB];simp;rfl
inductive N4 (vs:List V) (H:Hp) (Q:VK) (_:XK):Prop where
 | mk (a:Addr) (s:cC) (_:vs=[.ref a]) (_:du H a s) (_:g7 s) (_:s.act≠5) (_:Q (.int (sP s:Nat)) H)
def WT:aK aL 1 T.zL (N4):=by
 refine Y.zL.F.run Wt λbx A outer s H vs Q E hr h=>?_;obtain⟨a,st,rfl,⟨dx,p,wv,ha,_,_⟩,hw,h5,q⟩:=h;refine#[_,(aj (bG (dg (aW (aa 0)) dB) (aq (aD (df Y.Pd))) bp) (aj (bG (dg (aW (aa 0)) dB) (aq (aD (aW (aa 0)))) bp) (aq (aD (mT bL (aW (aa 0))))))),?_];have h6:=hw.act;unfold sP at q;refine#[_,Z,a,_,dx,_,_,Z,ha,Y.bI.cl,Y.dO,Z,Z,_,Z,bE (λc=>?_) (λc=>?_)]
 ·have h4:=(vo hw.act).mp (V.str.inj (of_decide_eq_true c))
  rw[if_neg (by lia),if_neg (by lia)] at q;exact q
 have h4:st.act≠4:=λz=>c (decide_eq_true (congrArg V.str ((vo hw.act).mpr z)));refine#[_,Z,a,_,dx,_,_,Z,ha,Y.bI.cl,Y.dO,Z,Z,_,Z,bE (λc=>?_) (λc=>?_)]
 ·have h0:=(DR hw.act).mp (V.str.inj (of_decide_eq_true c))
  rw[if_pos h0] at q;exact#[_,Z,a,_,dx,_,_,Z,ha,Y.bI.cl,Y.el,Z,q]
 have h0:st.act≠0:=λz=>c (decide_eq_true (congrArg V.str ((DR hw.act).mpr z)));rw[if_neg h0,if_pos (by lia)] at q;exact#[_,Z,a,_,dx,_,_,Z,ha,Y.bI.cl,Y.el,Z,_,_,Z,Z,.inl (by lia),q]
inductive N5 (vs:List V) (H:Hp) (Q:VK) (_:XK):Prop where
 | mk (a:Addr) (s:cC) (x y:Nat) (_:vs=[.ref a,.int (x:Nat),.int (y:Nat)]) (_:du H a s) (_:g7 s) (_:1<=x) (_:1<=y) (_:x<=1000) (_:y<=1000) (_ :∀H',bo H H'->Q (.int (rP x y s:Nat)) H')
def WU (h:g7 s):sP s<=198:=by
 have:=h.n;unfold sP;split
 ·lia
 split <;> lia
def WV (Kv:aK aL 1 T.zL (N4)) (pN:aK aL 2 T.kU (FR)) :
  aK aL 3 T.qY (N5):=by
 refine Y.qY.F.run vY λbx A outer s H vs Q E hr h=>?_;obtain⟨a,st,x,y,rfl,Eu,hw,E4,QJ,hx,hy,q⟩:=h;obtain⟨dx,p,wv,ha,hA,hc⟩:=id Eu;refine#[_,(aj (aZ 3 vY.nd (df Y.Nz)) (aj (bG (Ab (aW (aa 0)) dB) (aq (aZ 3 vY.nd (mT (aJ Y.zL Kv (hr.le rfl) aG (ae (aa 0) ao)) (aJ Y.kU pN (hr.le rfl) aG (ae (aW (aa 0)) (ae (aa 1) (ae (aa 2) ao))))))) bp) (aj (bG (E7 (aW (aa 0))) (aq (Fb 3 vY.nd (df Y.Pc))) bp) (aq (aD (aa 3)))))),?_];have di :∀(m:Nat) (H1:Hp),bo H H1->m=(if st.act=5 then 5 else sP st * jh x y st.area)->rC (HH (tB (Rz (jf K (bR 0) "when"))) (RE 3 (tC (.int 1)) (Tf λi j=>i+j)) Dk) (ql (bR 3)) { nx:=λ_ H'=>Q .cj H',rt:=Q } [some (.ref a),some (.int (x:Nat)),some (.int (y:Nat)),some (.int (m:Nat))] H1:=λm H1 s1 hm=>by
  have yu:=s1 _ _ ha;have z:=q H1 s1;unfold rP at z;rw[<- hm] at z;refine#[_,Z,a,_,dx,_,_,Z,yu,Y.bI.cl,Y.iE,Z,_,Z,?_];cases rF:st.cond with
  | none=>
   rw[rF] at hc z;cases hc;exact cH #[_,Z,z]
  | some c=>
   rw[rF] at hc z;obtain⟨p',rfl,UL⟩:=hc;exact cF #[_,Z,_,_,Z,Z,_,Z,z]
 refine#[_,Z,a,_,dx,_,_,Z,ha,Y.bI.cl,Y.dO,Z,Z,_,Z,?_];by_cases h5:st.act=5
 ·refine pM ?_ (di 5 H (λ_ _ z=>z) (by rw[if_pos h5]))
  have:decide (V.str (iQ st.act)=V.str "blink")=true:=decide_eq_true (congrArg V.str ((qj hw.act).mpr h5));rw[this];rfl
 refine So ?_ ?_
 ·have:decide (V.str (iQ st.act)=V.str "blink")=false:=decide_eq_false λz=>h5 ((qj hw.act).mp (V.str.inj z))
  rw[this];rfl
 have hp:=WU hw;refine#[_,Z,a,st,Z,Eu,hw,h5,_,Z,a,_,dx,_,_,Z,ha,Y.bI.cl,Y.me,Z,_,Z,_,Z,p,st.area,x,y,Z,hA,hw.area.1,by have:=hw.area.2;lia,E4,QJ,hx,hy,λH1 s1=>?_];refine#[_,_,Z,Z,.inl (by lia),?_];exact di (sP st * jh x y st.area) H1 s1 (by rw[if_neg h5])
inductive Kw (vs:List V) (H:Hp) (Q:VK) (_:XK):Prop where
 | mk (p:Addr) (as:List Addr) (sp:cz) (x y:Nat) (_:vs=[.ref p,.int (x:Nat),.int (y:Nat)]) (_:H p=some (.lst (as.map V.ref))) (_:hZ H as sp) (_:(∀s∈sp,g7 s)) (_:sp.length<=301) (_:1<=x) (_:1<=y) (_:x<=1000) (_:y<=1000) (_ :∀H',bo H H'->Q (.int (cW x y sp:Nat)) H')
def aae (Cj:aK aL 3 T.qY (N5)) :
  aK aL 4 T.kT (Kw):=by
 refine Y.kT.F.run yF λbx A outer s H vs Q E hr h=>?_;obtain⟨p,as,sp,x,y,rfl,hp,hS,hw,hl,E4,QJ,hx,hy,q⟩:=h;refine#[_,(aq (aD (aeY Y.ae7 rfl (lP [("step",3)] rfl yF.nd (fo (aa 0)) (dJ rfl) (λ_ _ _ _ _=>(gu 3 yF.nd)) (λ_ _ _ _ _=>gO) (λ_ _ _ _ _=>(aJ Y.qY Cj (hr.le rfl) aG (ae (aa 3) (ae (aa 1) (ae (aa 2) ao))))))))),?_];have mh:as.length=sp.length:=hS.length;refine#[_,Z,p,Z,#[_,aO.of hp],λD hD=>?_];refine qX (xs:=as.map V.ref) (λi H'=>bo H H'/\H' D=some (.lst ((sp.take i).map λs=>V.int (rP x y s:Nat)))) #[aT hD _,ah] (λi H' _ e=>aO.of (e.1 _ _ hp)) (λi v H' hv e=>?_) (λH' e=>?_)
 ·obtain⟨a,st,rfl,fk,hA⟩:=JF hS hv
  have hi:i < sp.length:=(az.mp fk).1;refine#[Z,xD ?_];refine#[_,Z,_,Z,_,Z,a,st,x,y,Z,du.same e.1 hA,hw st (aP fk),E4,QJ,hx,hy,λH2 s2=>?_];refine#[_,s2 _ _ e.2,?_,λb o hb=>?_,?_]
  ·rw[ai,bJ];show _ < 2 ^ 24;lia
  ·rw[au (aI hb hD)];exact s2 _ _ (e.1 _ _ hb)
  rw[ah,bW,fk,br];rfl
 refine#[D,sp.map λs=>((rP x y s:Nat):Int),Z,aO.of ?_,?_]
 ·rw[e.2,ai,mh,cq,bB];rfl
 rw[WS];exact q _ e.1
inductive yO (vs:List V) (H:Hp) (Q:VK) (_:XK):Prop where
 | mk (x dx:Addr) (v0 v1 v2 v3 v4 v5 v6:V) (_:vs=[.ref x,v0,v1,v2,v3,v4,v5,v6]) (_:H x=some (.ins T.aR.C dx [])) (_:Q .cj (aX H x (.ins T.aR.C dx (jS v0 v1 v2 v3 v4 v5 v6))))
def Mr:wu aL 1 T.aR (yO):=by
 refine Y.aR.F.run Mc λbx A outer s H vs Q E hr h=>?_;obtain⟨x,dx,v0,v1,v2,v3,v4,v5,v6,rfl,hx,q⟩:=h;refine#[_,(aj (eR (aa 0) (aa 1)) (aj (eR (aa 0) (aa 2)) (aj (eR (aa 0) (aa 3)) (aj (eR (aa 0) (aa 4)) (aj (eR (aa 0) (aa 5)) (aj (eR (aa 0) (aa 6)) (aq (eR (aa 0) (aa 7))))))))),?_];refine#[_,Z,_,Z,x,_,dx,_,Z,hx,Y.aR.cl,Y.gW,ag rfl,?_];refine#[_,Z,_,Z,x,_,dx,_,Z,ah,Y.aR.cl,Y.fq,ag rfl,?_];refine#[_,Z,_,Z,x,_,dx,_,Z,ah,Y.aR.cl,Y.fS,ag rfl,?_];refine#[_,Z,_,Z,x,_,dx,_,Z,ah,Y.aR.cl,Y.gP,ag rfl,?_];refine#[_,Z,_,Z,x,_,dx,_,Z,ah,Y.aR.cl,Y.pK,ag rfl,?_];refine#[_,Z,_,Z,x,_,dx,_,Z,ah,Y.aR.cl,Y.mL,ag rfl,?_];refine#[_,Z,_,Z,x,_,dx,_,Z,ah,Y.aR.cl,Y.mM,ag rfl,?_];simp only[ij];exact q
inductive Ht (vs:List V) (H:Hp) (Q:VK) (_:XK):Prop where
 | mk (x dx:Addr) (v0 v1 v2 v3:V) (_:vs=[.ref x,v0,v1,v2,v3]) (_:H x=some (.ins T.bZ.C dx [])) (_:Q .cj (aX H x (.ins T.bZ.C dx (DJ v0 v1 v2 v3))))
def Pj:wu aL 1 T.bZ (Ht):=by
 refine Y.bZ.F.run O8 λbx A outer s H vs Q E hr h=>?_;obtain⟨x,dx,v0,v1,v2,v3,rfl,hx,q⟩:=h;refine#[_,(aj (eR (aa 0) (aa 1)) (aj (eR (aa 0) (aa 2)) (aj (eR (aa 0) (aa 3)) (aq (eR (aa 0) (aa 4)))))),?_];refine#[_,Z,_,Z,x,_,dx,_,Z,hx,Y.bZ.cl,Y.ft,ag rfl,?_];refine#[_,Z,_,Z,x,_,dx,_,Z,ah,Y.bZ.cl,Y.eJ,ag rfl,?_];refine#[_,Z,_,Z,x,_,dx,_,Z,ah,Y.bZ.cl,Y.ny,ag rfl,?_];refine#[_,Z,_,Z,x,_,dx,_,Z,ah,Y.bZ.cl,Y.nz,ag rfl,?_];simp only[ij];exact q
def wA (b:aU):List (Str × V):=jS (.int (b.number:Nat)) (.int b.at_.1) (.int b.at_.2) (.int b.life) (.int b.most) (.int b.mana) (.int (b.side:Nat))
def Ck (H:Hp) (a:Addr) (b:aU):Prop:=∃dx,H a=some (.ins T.aR.C dx (wA b))
def Gx (H:Hp):List Addr->List aU->Prop:=Paired (Ck H)
structure dh (H:Hp) (a g bl:Addr) (bs:List Addr) (L:aE) (nx:Nat):Prop where
 lv :∃dx,H a=some (.ins T.aM.C dx (gc (.int (L.w:Nat)) (.int (L.h:Nat)) (.ref g) (.ref bl) (.int (nx:Nat))))
 gr:H g=some (.lst (vi L.ground))
 bl:H bl=some (.lst (bs.map V.ref))
 be:Gx H bs L.beings
theorem Gx.same (s:bo H H') (h:Gx H as l):Gx H' as l:=Paired.imp (λ_ _ #[dx,z]=>#[dx,s _ _ z]) h
theorem dh.same {H H':Hp} {a g bl:Addr} {bs:List Addr} {L:aE} {nx:Nat} (h:dh H a g bl bs L nx) (s:bo H H'):dh H' a g bl bs L nx:=
 #[let⟨dx,z⟩:=h.lv;#[dx,s _ _ z],s _ _ h.gr,s _ _ h.bl,h.be.same s]
inductive xG (vs:List V) (H:Hp) (Q:VK) (_:XK):Prop where
 | mk (a g bl:Addr) (bs:List Addr) (L:aE) (nx:Nat) (x y:Int) (_:vs=[.ref a,.int x,.int y]) (_:dh H a g bl bs L nx) (_:L.w<=12) (_:Q (.int (y * (L.w:Nat)+x)) H)
def aaf:aK aL 1 T.eG (xG):=by
 refine Y.eG.F.run Me λbx A outer s H vs Q E hr h=>?_;obtain⟨a,g,bl,bs,L,nx,x,y,rfl,hL,hw,q⟩:=h;obtain⟨dx,ha⟩:=hL.lv;refine#[_,(aq (aD (iX (mT (aa 2) (aW (aa 0))) (aa 1)))),?_];exact#[_,Z,_,Z,a,_,dx,_,_,Z,ha,Y.aM.cl,Y.dW,Z,_,_,Z,Z,.inr (by lia),_,Z,_,_,Z,Z,q]
inductive DS (vs:List V) (H:Hp) (Q:VK) (_:XK):Prop where
 | mk (a g bl:Addr) (bs:List Addr) (L:aE) (nx:Nat) (x y:Int) (_:vs=[.ref a,.int x,.int y]) (_:dh H a g bl bs L nx) (_:Q (.bl (bV L (x,y))) H)
def WW:aK aL 1 T.fQ (DS):=by
 refine Y.fQ.F.run Kk λbx A outer s H vs Q E hr h=>?_;obtain⟨a,g,bl,bs,L,nx,x,y,rfl,hL,q⟩:=h;obtain⟨dx,ha⟩:=hL.lv;refine#[_,(aq (aD (vS (Ua bL (aa 1) (aW (aa 0))) (nN (Ua bL (aa 2) (aW (aa 0))))))),?_];unfold bV at q;refine#[_,Z,_,_,Z,Z,_,Z,bE (λc1=>?_) (λc1=>?_)]
 ·rw[show decide (0<=((x,y):bc).1)=true from c1,cT] at q
  refine#[_,Z,a,_,dx,_,_,Z,ha,Y.aM.cl,Y.dW,Z,_,_,Z,Z,_,Z,bE (λc2=>?_) (λc2=>?_)]
  ·rw[show decide (((x,y):bc).1 < (L.w:Int))=true from c2,cT] at q
   refine#[_,Z,_,_,Z,Z,_,Z,bE (λc3=>?_) (λc3=>?_)]
   ·rw[show decide (0<=((x,y):bc).2)=true from c3,cT] at q
    exact#[_,Z,a,_,dx,_,_,Z,ha,Y.aM.cl,Y.iM,Z,_,_,Z,Z,q]
   rw[show decide (0<=((x,y):bc).2)=false from cD.mpr c3,dr] at q;exact q
  rw[show decide (((x,y):bc).1 < (L.w:Int))=false from cD.mpr c2,dr] at q;exact q
 rw[show decide (0<=((x,y):bc).1)=false from cD.mpr c1,dr] at q;exact#[_,Z,cH q]
def wB {H:Hp} {as:List Addr} {l:List aU} (h:Gx H as l) {i:Nat} {x:V} (hx:(as.map V.ref)[i]?=some x) :∃a s dx,x=.ref a/\as[i]?=some a/\l[i]?=some s/\H a=some (.ins T.aR.C dx (wA s)):=by
 rw[aA] at hx;cases e:as[i]? with
 | none=>rw[e] at hx;cases hx
 | some a=>
  rw[e] at hx;cases hx;obtain⟨s,h1,dx,h2⟩:=Paired.get h e;exact#[a,s,dx,Z,Z,h1,h2]
def QK {α : Type} {p:α->Bool} {l:List α} {i:Nat} {b:α} (h:l[i]?=some b) (hp:p b=true) (iU :∀j c,j < i->l[j]?=some c->p c=false):l.find? p=some b:=by
 induction l generalizing i with
 | nil=>simp at h
 | cons a r ih=>
  cases i with
  | zero=>
   cases h;rw[jM,hp]
  | succ i=>
   rw[jM,iU 0 a (by lia) rfl];exact ih (i:=i) (by simpa using h) λj c hj hc=>iU (j+1) c (by lia) (by simpa using hc)
def QL {α : Type} {p:α->Bool} {l:List α} (iU :∀(j:Nat) (c:α),l[j]?=some c->p c=false):l.find? p=none:=by
 rw[yz];intro x hx;obtain⟨j,hj,e⟩:=g9 hx;rw[iU j x (by rw[aw hj,e])];simp
inductive Cm (vs:List V) (H:Hp) (Q:VK) (_:XK):Prop where
 | mk (a g bl:Addr) (bs:List Addr) (L:aE) (nx k:Nat) (_:vs=[.ref a,.int (k:Nat)]) (_:dh H a g bl bs L nx) (_:Sp.WF L) (_:(∀(i:Nat) (b:Addr) (s:aU),bs[i]?=some b->L.beings[i]?=some s->gy L (Sp.cellAt L.w k)=some s->Q (.ref b) H)) (_:(gy L (Sp.cellAt L.w k)=none->Q .cj H))
def US {L:aE} (hw:Sp.WF L) {s:aU} (hs:s∈L.beings) (k:Nat):decide (V.int (s.at_.2 * (L.w:Nat)+s.at_.1)=V.int (k:Nat))=(s.at_ == Sp.cellAt L.w k):=by
 have hi:=hw.ins s hs;have e:=(om hi).2;apply fX;rw[decide_eq_true_iff,beq_iff_eq,BV hi];constructor
 ·intro z
  have:=V.int.inj z
  lia
 intro z;rw[<- e,z]
def Pk (fG:aK aL 1 T.eG (xG)):aK aL 2 T.fF (Cm):=by
 refine Y.fF.F.run yZ λbx A outer s H vs Q E hr h=>?_;obtain⟨a,g,bl,bs,L,nx,k,rfl,hL,hw,q1,q2⟩:=h;obtain⟨dx,ha⟩:=hL.lv;refine#[_,(aj (kJ PassesOwn.never rfl (fo (aW (aa 0))) (gu 2 yZ.nd) (aq (bG (dg (eQ Y.eG Y.aM.cl fG (hr.le rfl) aG (aa 0) (ae (aW (aa 2)) (ae (aW (aa 2)) ao))) (aa 1)) (aq (aD (aa 2))) bp))) (aq (aD Lk))),?_];refine#[_,Z,a,_,dx,_,_,Z,ha,Y.aM.cl,Y.dE,Z,bl,Z,#[_,aO.of hL.bl],?_];have eP:bs.length=L.beings.length:=hL.be.length;refine jD (xs:=bs.map V.ref) (λi σ Hc=>Hc=H/\(∃z,σ = [some (.ref a),some (.int (k:Nat)),z])/\∀j c,j < i->L.beings[j]?=some c->(c.at_ == Sp.cellAt L.w k)=false) #[Z,#[none,Z],λj c hj=>absurd hj (by lia)] (λi σ Hc _ e=>by rw[e.1];exact aO.of hL.bl) (λi x σ Hc hx e=>?_) (λσ Hc e=>?_)
 ·obtain⟨rfl,⟨z,rfl⟩,iU⟩:=e
  obtain⟨b,st,fO,rfl,hb,hs,hB⟩:=wB hL.be hx;refine#[_,Z,a,dx,_,Z,ha,qO,_,Z,b,_,fO,_,_,Z,hB,Y.aR.cl,Y.fq,Z,_,Z,b,_,fO,_,_,Z,hB,Y.aR.cl,Y.fS,Z,a,g,bl,bs,L,nx,_,_,Z,hL,hw.w1,_,Z,Z,_,Z,?_];rw[US hw (aP hs)];refine bE (λc=>?_) (λc=>?_)
  ·exact#[_,Z,q1 i b st hb hs (QK hs c iU)]
  refine#[Z,#[_,Z],λj c' hj Cw=>?_];rcases Nat.lt_succ_iff_lt_or_eq.mp hj with h | rfl
  ·exact iU j c' h Cw
  rw[hs] at Cw;cases Cw;exact cD.mpr c
 obtain⟨rfl,_,iU⟩:=e;refine q2 (QL λj c hc=>iU j c ?_ hc);rw[ai,eP];exact(az.mp hc).1
inductive uk (vs:List V) (H:Hp) (Q:VK) (_:XK):Prop where
 | mk (a g bl:Addr) (bs:List Addr) (L:aE) (nx k:Nat) (_:vs=[.ref a,.int (k:Nat)]) (_:dh H a g bl bs L nx) (_:(∀(i:Nat) (b:Addr) (s:aU),bs[i]?=some b->L.beings[i]?=some s->L.beings.find? (λx=>x.number == k)=some s->Q (.ref b) H)) (_:(L.beings.find? (λx=>x.number == k)=none->Q .cj H))
def Pl:aK aL 1 T.ck (uk):=by
 refine Y.ck.F.run tM λbx A outer s H vs Q E hr h=>?_;obtain⟨a,g,bl,bs,L,nx,k,rfl,hL,q1,q2⟩:=h;obtain⟨dx,ha⟩:=hL.lv;refine#[_,(aj (kJ PassesOwn.never rfl (fo (aW (aa 0))) (gu 2 tM.nd) (aq (bG (dg (aW (aa 2)) (aa 1)) (aq (aD (aa 2))) bp))) (aq (aD Lk))),?_];refine#[_,Z,a,_,dx,_,_,Z,ha,Y.aM.cl,Y.dE,Z,bl,Z,#[_,aO.of hL.bl],?_];have eP:bs.length=L.beings.length:=hL.be.length;refine jD (xs:=bs.map V.ref) (λi σ Hc=>Hc=H/\(∃z,σ = [some (.ref a),some (.int (k:Nat)),z])/\∀j c,j < i->L.beings[j]?=some c->(c.number == k)=false) #[Z,#[none,Z],λj c hj=>absurd hj (by lia)] (λi σ Hc _ e=>by rw[e.1];exact aO.of hL.bl) (λi x σ Hc hx e=>?_) (λσ Hc e=>?_)
 ·obtain⟨rfl,⟨z,rfl⟩,iU⟩:=e
  obtain⟨b,st,fO,rfl,hb,hs,hB⟩:=wB hL.be hx;refine#[_,Z,b,_,fO,_,_,Z,hB,Y.aR.cl,Y.gW,Z,_,Z,Z,_,Z,?_];have et:decide (V.int (st.number:Nat)=V.int (k:Nat))=(st.number == k):=by
   apply fX;rw[decide_eq_true_iff,beq_iff_eq];constructor
   ·intro z
    have:=V.int.inj z
    lia
   intro z;rw[z]
  rw[et];refine bE (λc=>?_) (λc=>?_)
  ·exact#[_,Z,q1 i b st hb hs (QK hs c iU)]
  refine#[Z,#[_,Z],λj c' hj Cw=>?_];rcases Nat.lt_succ_iff_lt_or_eq.mp hj with h | rfl
  ·exact iU j c' h Cw
  rw[hs] at Cw;cases Cw;exact cD.mpr c
 obtain⟨rfl,_,iU⟩:=e;refine q2 (QL λj c hc=>iU j c ?_ hc);rw[ai,eP];exact(az.mp hc).1
inductive Gy (vs:List V) (H:Hp) (Q:VK) (_:XK):Prop where
 | mk (a g bl:Addr) (bs:List Addr) (L:aE) (nx:Nat) (x y:Int) (_:vs=[.ref a,.int x,.int y]) (_:dh H a g bl bs L nx) (_:Sp.WF L) (_:Q (.bl (fw L (x,y))) H)
def aag (fG:aK aL 1 T.eG (xG)) (jl:aK aL 1 T.fQ (DS))
  (ky:aK aL 2 T.fF (Cm)):aK aL 3 T.eU (Gy):=by
 refine Y.eU.F.run Ai λbx A outer s H vs Q E hr h=>?_;obtain⟨a,g,bl,bs,L,nx,x,y,rfl,hL,hw,q⟩:=h;obtain⟨dx,ha⟩:=hL.lv;refine#[_,(aj (bG (uz (gD (eQ Y.fQ Y.aM.cl jl (hr.le rfl) aG (aa 0) (ae (aa 1) (ae (aa 2) ao))))) (aq (aD yk)) bp) (aj (aZ 3 Ai.nd (eQ Y.eG Y.aM.cl fG (hr.le rfl) aG (aa 0) (ae (aa 1) (ae (aa 2) ao)))) (aq (aD (vS (acC (bU (aW (aa 0)) (aa 3)) (df Y.Fz)) (nN (aeQ (eQ Y.fF Y.aM.cl ky (hr.le rfl) aG (aa 0) (ae (aa 3) ao))))))))),?_];unfold fw at q;refine#[_,Z,a,dx,_,Z,ha,xA,_,Z,_,Z,a,g,bl,bs,L,nx,x,y,Z,hL,_,Z,?_];cases hi:bV L (x,y) with
 | false=>
  rw[hi,dr] at q;exact cF q
 | true=>
  rw[hi,cT] at q;refine cH ?_;refine#[_,Z,a,dx,_,Z,ha,qO,_,Z,_,Z,a,g,bl,bs,L,nx,x,y,Z,hL,hw.w1,?_];obtain⟨e1,e2⟩:=om hi;have e2':y * ((L.w:Nat):Int)+x=((gz L (x,y):Nat):Int):=e2.symm;rw[e2'];have kE:=EI hi;have hlg:gz L (x,y) < L.ground.length:=by rw[hw.gl];exact kE
  have N6:BS L (x,y)=L.ground[gz L (x,y)]:=by
   unfold BS;rw[hi,if_pos rfl,bY,aw hlg,Option.getD_some]
  rw[N6] at q;refine#[_,Z,a,_,dx,_,_,Z,ha,Y.aM.cl,Y.dD,Z,_,Z,g,vi L.ground,_,_,Z,Z,aO.of hL.gr,qD (aw hlg),Z,_,Z,?_];have et:(!decide (V.int (L.ground[gz L (x,y)]:Nat)=V.int 0))=(L.ground[gz L (x,y)] != 0):=by
   apply fX;simp <;> lia
  rw[et];refine bE (λc=>?_) (λc=>?_)
  ·rw[c,cT] at q
   refine#[_,Z,a,dx,_,Z,ha,y9,_,Z,a,g,bl,bs,L,nx,gz L (x,y),Z,hL,hw,λi b st hb hs hf=>?_,λhf=>?_]
   ·rw[e1] at hf
    rw[hf] at q;exact q
   rw[e1] at hf;rw[hf] at q;exact q
  rw[cD.mpr c,dr] at q;exact q
theorem same_refl (H:Hp):bo H H:=λ_ _ h=>h
theorem LF {α : Type} (l:List α):l.filter (λ_=>true)=l:=List.filter_eq_self.mpr λ_ _=>rfl
def YK (σ : L2.St) (v:Nat) (x:Option V):fg ((fg σ [v]).set v x) [v]=fg σ [v]:=by
 show((σ.set v none).set v x).set v none = σ.set v none;rw[List.set_set,List.set_set]
def WX {tt:TT} {te:TE} {σ : L2.St} {H:Hp} {D:Addr} {Qd:Hp->Prop} {v n:Nat} (p:Nat->Bool) (f:Nat->V) (hn:n < 2 ^ 24) (hD:H D=none)
  (stepT :∀(i:Nat) (Hc:Hp) (Q:Bool->Hp->Prop),i < n->bo H Hc->(∀H2,bo Hc H2->Q (p i) H2)->tt ((σ.set v none).set v (some (.int ((i:Nat):Int)))) Hc Q)
  (step :∀(i:Nat) (Hc:Hp) (Q:VK),i < n->p i=true->bo H Hc->(∀H2,bo Hc H2->Q (f i) H2)->te ((σ.set v none).set v (some (.int ((i:Nat):Int)))) Hc Q)
  (di :∀H',bo H H'->H' D=some (.lst (((ba n).filter p).map f))->Qd H') :
  ∃W:Nat->Nat->Hp->Prop,(∃m,W 0 m (aX H D (.lst [])))/\∀i m H,W i m H->
   ((yX 0 n).stop i H/\Qd H)\/((yX 0 n).go i H/\∃Nx:Hp->Prop,(∀H',Nx H'->∃m',m' < m/\W (i+1) m' H')/\∀x H',(yX 0 n).ET i H x H'->l5 v x (fg σ [v]) H' λσ2 H2=>fg σ2 [v]=fg σ [v]/\tt σ2 H2 λb H3=>
    if b=true then te σ2 H3 λy H4=>∃acc,H4 D=some (.lst acc)/\acc.length < sizeLine/\Nx (aX H4 D (.lst (acc++[y]))) else Nx H3):=by
 refine Wc (λi H'=>bo H H'/\H' D=some (.lst (((ba i).filter p).map f))) #[aT hD _,ah] (λi H' hi e=>?_) (λH' e=>di H' e.1 e.2);rw[wX];refine#[YK σ v _,stepT i H' _ hi e.1 λH2 s2=>?_];have e2:=s2 _ _ e.2;refine bE (λc=>?_) (λc=>?_)
 ·refine step i H2 _ hi c (e.1.trans s2) λH3 s3=>#[_,s3 _ _ e2,?_,λb o hb=>?_,?_]
  ·have:=cY p (ba i)
   rw[jW] at this;rw[ai];show _ < 2 ^ 24
   lia
  ·rw[au (aI hb hD)];exact s3 _ _ (s2 _ _ (e.1 _ _ hb))
  rw[ah,dQ,dI,br,cK,if_pos c];rfl
 refine#[e.1.trans s2,?_];rw[e2,dQ,dI,cK,if_neg c,lJ,b5]
theorem JG {te:TE} {σ : L2.St} {H:Hp} {D:Addr} {Qd:Hp->Prop} {v n:Nat} (f:Nat->V) (hn:n < 2 ^ 24) (hD:H D=none)
  (step :∀(i:Nat) (Hc:Hp) (Q:VK),i < n->bo H Hc->(∀H2,bo Hc H2->Q (f i) H2)->te ((σ.set v none).set v (some (.int ((i:Nat):Int)))) Hc Q)
  (di :∀H',bo H H'->H' D=some (.lst ((ba n).map f))->Qd H') :
  ∃W:Nat->Nat->Hp->Prop,(∃m,W 0 m (aX H D (.lst [])))/\∀i m H,W i m H->
   ((yX 0 n).stop i H/\Qd H)\/((yX 0 n).go i H/\∃Nx:Hp->Prop,(∀H',Nx H'->∃m',m' < m/\W (i+1) m' H')/\∀x H',(yX 0 n).ET i H x H'->l5 v x (fg σ [v]) H' λσ2 H2=>fg σ2 [v]=fg σ [v]/\HL σ2 H2 λb H3=>
    if b=true then te σ2 H3 λy H4=>∃acc,H4 D=some (.lst acc)/\acc.length < sizeLine/\Nx (aX H4 D (.lst (acc++[y]))) else Nx H3):=
 WX (λ_=>true) f hn hD (λi Hc Q _ _ q=>q Hc (same_refl Hc)) (λi Hc Q hi _ s q=>step i Hc Q hi s q) (λH' s e=>di H' s (by rw[e,LF]))
def ahv {a:Addr} {xs:List V} {tt:TT} {te:TE} {σ : L2.St} {H:Hp} {D:Addr} {Qd:Hp->Prop} {v:Nat} (p:V->Bool) (f:V->V) (hn:xs.length < 2 ^ 24) (ha:H a=some (.lst xs)) (hD:H D=none)
  (stepT :∀(i:Nat) (x:V) (Hc:Hp) (Q:Bool->Hp->Prop),xs[i]?=some x->bo H Hc->(∀H2,bo Hc H2->Q (p x) H2)->tt ((σ.set v none).set v (some x)) Hc Q)
  (step :∀(i:Nat) (x:V) (Hc:Hp) (Q:VK),xs[i]?=some x->p x=true->bo H Hc->(∀H2,bo Hc H2->Q (f x) H2)->te ((σ.set v none).set v (some x)) Hc Q)
  (di :∀H',bo H H'->H' D=some (.lst ((xs.filter p).map f))->Qd H') :
  ∃W:Nat->Nat->Hp->Prop,(∃m,W 0 m (aX H D (.lst [])))/\∀i m H,W i m H->
   ((zW K a).stop i H/\Qd H)\/((zW K a).go i H/\∃Nx:Hp->Prop,(∀H',Nx H'->∃m',m' < m/\W (i+1) m' H')/\∀x H',(zW K a).ET i H x H'->l5 v x (fg σ [v]) H' λσ2 H2=>fg σ2 [v]=fg σ [v]/\tt σ2 H2 λb H3=>
    if b=true then te σ2 H3 λy H4=>∃acc,H4 D=some (.lst acc)/\acc.length < sizeLine/\Nx (aX H4 D (.lst (acc++[y]))) else Nx H3):=by
 refine qX (xs:=xs) (λi H'=>bo H H'/\H' D=some (.lst (((xs.take i).filter p).map f))) #[aT hD _,ah] (λi H' _ e=>aO.of (e.1 _ _ ha)) (λi x H' hx e=>?_) (λH' e=>di H' e.1 (by rw[e.2,cq]));have hi:i < xs.length:=(az.mp hx).1;refine#[YK σ v _,stepT i x H' _ hx e.1 λH2 s2=>?_];have e2:=s2 _ _ e.2;refine bE (λc=>?_) (λc=>?_)
 ·refine step i x H2 _ hx c (e.1.trans s2) λH3 s3=>#[_,s3 _ _ e2,?_,λb o hb=>?_,?_]
  ·have:=cY p (xs.take i)
   rw[bJ] at this;rw[ai];show _ < 2 ^ 24
   lia
  ·rw[au (aI hb hD)];exact s3 _ _ (s2 _ _ (e.1 _ _ hb))
  rw[ah,bW,hx,dI,br,Option.toList_some,cK,if_pos c];rfl
 refine#[e.1.trans s2,?_];rw[e2,bW,hx,dI,Option.toList_some,cK,if_neg c,lJ,b5]
theorem LG {a:Addr} {xs:List V} {te:TE} {σ : L2.St} {H:Hp} {D:Addr} {Qd:Hp->Prop} {v:Nat} (f:V->V) (hn:xs.length < 2 ^ 24) (ha:H a=some (.lst xs)) (hD:H D=none)
  (step :∀(i:Nat) (x:V) (Hc:Hp) (Q:VK),xs[i]?=some x->bo H Hc->(∀H2,bo Hc H2->Q (f x) H2)->te ((σ.set v none).set v (some x)) Hc Q)
  (di :∀H',bo H H'->H' D=some (.lst (xs.map f))->Qd H') :
  ∃W:Nat->Nat->Hp->Prop,(∃m,W 0 m (aX H D (.lst [])))/\∀i m H,W i m H->
   ((zW K a).stop i H/\Qd H)\/((zW K a).go i H/\∃Nx:Hp->Prop,(∀H',Nx H'->∃m',m' < m/\W (i+1) m' H')/\∀x H',(zW K a).ET i H x H'->l5 v x (fg σ [v]) H' λσ2 H2=>fg σ2 [v]=fg σ [v]/\HL σ2 H2 λb H3=>
    if b=true then te σ2 H3 λy H4=>∃acc,H4 D=some (.lst acc)/\acc.length < sizeLine/\Nx (aX H4 D (.lst (acc++[y]))) else Nx H3):=
 ahv (λ_=>true) f hn ha hD (λi x Hc Q _ _ q=>q Hc (same_refl Hc)) (λi x Hc Q hx _ s q=>step i x Hc Q hx s q) (λH' s e=>di H' s (by rw[e,LF]))
def vb (l:List Bool):List V:=l.map V.bl
theorem kZ (l:List Bool):(vb l).length=l.length:=ai _
theorem uD (h:l[i]?=some c):w8 (vb l) (i:Nat)=some (.bl c):=b8 (j:=i) (by unfold vb;rw[aA,h];rfl)
theorem N7 (a:Int):(if a < 0 then -a else a)=mj a:=rfl
def Kx (a b:Int):(if b > a then b else a)=max a b:=by
 by_cases h:b > a
 ·rw[if_pos h];lia
 rw[if_neg h];lia
def Mk (p:List Bool) (H:Hp) (Q:VK):Prop:=∀H' q,bo H H'->H q=none->H' q=some (.lst (vb p))->Q (.ref q) H'
def Gz (lo hi:Int) (t c:bc):Bool:=decide (lo<=kP c t)&&decide (kP c t<=hi)
inductive GA (vs:List V) (H:Hp) (Q:VK) (_:XK):Prop where
 | mk (a g bl:Addr) (bs:List Addr) (L:aE) (nx:Nat) (x y lo hi:Int) (_:vs=[.ref a,.int x,.int y,.int lo,.int hi]) (_:dh H a g bl bs L nx) (_:Sp.WF L) (_:Mk (mask L (Gz lo hi (x,y))) H Q)
theorem DT {L:aE} (hw:Sp.WF L) (i:Nat):((i:Nat):Int) % ((L.w:Nat):Int)=(Sp.cellAt L.w i).1/\((i:Nat):Int) / ((L.w:Nat):Int)=(Sp.cellAt L.w i).2:=#[by unfold Sp.cellAt;lia,by unfold Sp.cellAt;lia]
theorem WF.small {L:aE} (hw:Sp.WF L):L.w * L.h<=144:=xT hw.w1 hw.h1
def aah:aK aL 1 T.fb (GA):=by
 refine Y.fb.F.run iJ λbx A outer s H vs Q E hr h=>?_;obtain⟨a,g,bl,bs,L,nx,x,y,lo,hi,rfl,hL,hw,q⟩:=h;obtain⟨dx,ha⟩:=hL.lv;refine#[_,(aj (aZ 5 iJ.nd (aW (aa 0))) (aj (CD 6 [("cell",7)] rfl iJ.nd (nR Y.i8 (ir Y.iu (aW (aa 0)))) (dJ rfl) (λ_ _ _ _ _=>(gu 7 iJ.nd)) (λ_ _ _ _ _=>gO) (λ_ _ _ _ _=>(R7 Y.Sa rfl (Jg Y.Js (kI (Gp (aa 7) (aa 5)) (aa 1))) (Jg Y.Js (kI (Jd (aa 7) (aa 5)) (aa 2)))))) (aq (aD (lP [("distance",8)] rfl iJ.nd (fo (aa 6)) (dJ rfl) (λ_ _ _ _ _=>(gu 8 iJ.nd)) (λ_ _ _ _ _=>gO) (λ_ _ _ _ _=>(T9 (aa 3) (aa 8) (aa 4)))))))),?_];have FU:=WF.small hw;have wC:=hw.lZ;refine#[_,Z,a,_,dx,_,_,Z,ha,Y.aM.cl,Y.dW,Z,?_];refine#[_,Z,a,_,dx,_,_,Z,ha,Y.aM.cl,Y.dD,Z,g,vi L.ground,Z,.inl (aO.of hL.gr),_,Z,by lia,by rw[iz,hw.gl];lia,λD hD=>?_];rw[iz,hw.gl,cg];refine JG (λi=>.int (kP (Sp.cellAt L.w i) (x,y))) (by lia) hD (λi Hc Q' rR sc q'=>?_) (λH1 s1 h1=>?_)
 ·refine#[_,Z,_,Z,_,_,Z,Z,by lia,_,Z,_,_,Z,Z,_,Z,?_]
  refine#[_,Z,_,Z,_,_,Z,Z,#[by lia,by have:=hw.w1;lia],_,Z,_,_,Z,Z,_,Z,_,_,Z,Z,?_];have z:=q' Hc (same_refl Hc);obtain⟨e1,e2⟩:=DT hw i;rw[Kx,N7,N7,e1,e2];exact z
 refine#[_,Z,D,Z,#[_,aO.of h1],λD2 JH=>?_];refine LG (λv=>match v with | .int d=>.bl (decide (lo<=d)&&decide (d<=hi)) | _=>.cj) ?_ h1 JH (λi v Hc Q' hv sc q'=>?_) (λH2 s2 h2=>?_)
 ·rw[ai,jW];lia
 ·rw[aA] at hv
  cases hb:(ba (L.w * L.h))[i]? with
  | none=>rw[hb] at hv;cases hv
  | some c=>
   rw[hb] at hv;cases hv;have z:=q' Hc (same_refl Hc);refine#[_,Z,_,Z,_,_,Z,Z,_,Z,bE (λc1=>?_) (λc1=>?_)]
   ·refine#[_,Z,_,_,Z,Z,?_]
    dsimp only at z;rw[c1,cT] at z;exact z
   dsimp only at z;rw[cD.mpr c1,dr] at z;exact z
 refine q H2 D2 (s1.trans s2) (s1.free JH) ?_;rw[h2,bB];congr 2;unfold vb mask;rw[bB];rfl
def uQ {ta tb:TE} {σ : L2.St} {H:Hp} {Q:VK} {b b':Bool} (h1 :∀Q':VK,Q' (.bl b) H->ta σ H Q') (h2:b=true->∀Q':VK,Q' (.bl b') H->tb σ H Q') (h:Q (.bl (b&&b')) H):RC ta tb σ H Q:=by
 refine h1 _ #[b,Z,?_];cases b with
 | true=>exact h2 rfl _ h
 | false=>exact h
def getD_at {l:List Bool} {i:Nat} (h:i < l.length):l[i]?=some (l.getD i false):=by
 rw[bY,aw h];rfl
def JI {p q:Prop} [Decidable p] [Decidable q] (h:p↔q):decide p=decide q:=by
 apply fX;rw[decide_eq_true_iff,decide_eq_true_iff];exact h
def FV {Q:VK} {H:Hp} {b b':Bool} (e:b=b') (h:Q (.bl b') H):Q (.bl b) H:=by rw[e];exact h
inductive Ig (vs:List V) (H:Hp) (Q:VK) (_:XK):Prop where
 | mk (p a g bl:Addr) (bs:List Addr) (L:aE) (nx:Nat) (l:List Bool) (_:vs=[.ref p,.ref a]) (_:dh H a g bl bs L nx) (_:Sp.WF L) (_:H p=some (.lst (vb l))) (_:l.length=L.w * L.h) (_:Mk (rE L.w l) H Q)
def WY:aK aL 1 T.vf (Ig):=by
 refine Y.vf.F.run qw λbx A outer s H vs Q E hr h=>?_;obtain⟨p,a,g,bl,bs,L,nx,l,rfl,hL,hw,hp,hl,q⟩:=h;obtain⟨dx,ha⟩:=hL.lv;refine#[_,(aj (aZ 2 qw.nd (aW (aa 1))) (aj (aZ 3 qw.nd (kI (aa 2) bL)) (aj (aZ 4 qw.nd (ir Y.iu (aa 0))) (aj (aZ 5 qw.nd (lP [("k",6)] rfl qw.nd (nR Y.i8 (aa 4)) (dJ rfl) (λ_ _ _ _ _=>(gu 6 qw.nd)) (λ_ _ _ _ _=>gO) (λ_ _ _ _ _=>(DD (bU (aa 0) (aa 6)) (DD (vS (ahf (Gp (aa 6) (aa 2)) bL) (nN (bU (aa 0) (kI (aa 6) bL)))) (nN (vS (R3 (Gp (aa 6) (aa 2)) (aa 3)) (nN (bU (aa 0) (iX (aa 6) bL)))))))))) (aq (aD (lP [("k",6)] rfl qw.nd (nR Y.i8 (aa 4)) (dJ rfl) (λ_ _ _ _ _=>(gu 6 qw.nd)) (λ_ _ _ _ _=>gO) (λ_ _ _ _ _=>(DD (bU (aa 5) (aa 6)) (DD (vS (ahg (aa 6) (aa 2)) (nN (bU (aa 5) (kI (aa 6) (aa 2))))) (nN (vS (R3 (iX (aa 6) (aa 2)) (aa 4)) (nN (bU (aa 5) (iX (aa 6) (aa 2)))))))))))))))),?_];have FU:=WF.small hw;have wC:=hw.lZ;refine#[_,Z,a,_,dx,_,_,Z,ha,Y.aM.cl,Y.dW,Z,?_];refine#[_,Z,_,_,Z,Z,?_];refine#[_,Z,p,vb l,Z,.inl (aO.of hp),?_];refine#[_,Z,_,Z,by lia,by rw[kZ,hl];lia,λD hD=>?_];rw[kZ,cg];have cell :∀(r:Addr) (m:List Bool) (i j:Nat) (σ : L2.St) (Hc:Hp) (Q':VK) (x y:Int),Hc r=some (.lst (vb m))->j < m.length->y=((j:Nat):Int)->Q' (.bl (m.getD j false)) Hc->V5 K (.ref r) (.int y) Hc Q':=λr m i j σ Hc Q' x y h1 h2 h3 h4=>by
  subst h3;exact#[r,_,_,_,Z,Z,aO.of h1,uD (getD_at h2),h4]
 refine JG (λi=>.bl (wide L.w (λj=>l.getD j false) i)) (by lia) hD (λi Hc Q' rR sc q'=>?_) (λH1 s1 h1=>?_)
 ·have u6:=sc _ _ hp
  have z:=q' Hc (same_refl Hc);have amH:((i:Nat):Int) % ((L.w:Nat):Int)=((i % L.w:Nat):Int):=by lia
  refine tq (b:=l.getD i false) (b':=(decide (0 < i % L.w)&&l.getD (i - 1) false) || (decide (i % L.w < L.w - 1)&&l.getD (i+1) false)) (λQ2 z2=>?_) (λQ2 z2=>tq (b:=decide (0 < i % L.w)&&l.getD (i - 1) false) (b':=decide (i % L.w < L.w - 1)&&l.getD (i+1) false) (λQ3 z3=>?_) (λQ3 z3=>?_) z2) z
  ·exact#[_,Z,_,Z,cell p l i i [] Hc _ 0 _ u6 (by lia) rfl z2]
  ·refine uQ (b:=decide (0 < i % L.w)) (b':=l.getD (i - 1) false) (λQ4 z4=>?_) (λc Q4 z4=>?_) z3
   ·refine#[_,Z,_,Z,_,_,Z,Z,by lia,_,_,Z,Z,?_]
    exact FV (JI (show(0:Int) < ((i:Nat):Int) % ((L.w:Nat):Int)↔0 < i % L.w by lia)) z4
   have:=of_decide_eq_true c;have:=Nat.mod_le i L.w;exact#[_,Z,_,Z,_,_,Z,Z,cell p l i (i - 1) [] Hc _ 0 _ u6 (by lia) (by lia) z4]
  refine uQ (b:=decide (i % L.w < L.w - 1)) (b':=l.getD (i+1) false) (λQ4 z4=>?_) (λc Q4 z4=>?_) z3
  ·refine#[_,Z,_,Z,_,_,Z,Z,by lia,_,Z,_,_,Z,Z,?_]
   exact FV (JI (show((i:Nat):Int) % ((L.w:Nat):Int) < ((L.w:Nat):Int) - 1↔i % L.w < L.w - 1 by lia)) z4
  have c':=of_decide_eq_true c;have kE:i+1 < L.w * L.h:=by
   have h1:=IH (w:=L.w) (k:=i) (by lia);have h2:=ua (w:=L.w) (h:=L.h) (k:=i) (by lia);have h3:=gG (i+1) L.w;have h4:(i+1) / L.w+1<=L.h:=by lia
   have h5:=g8 L.w h4;rw[Nat.mul_add] at h5;have h6:=tH (i+1) wC
   lia
  exact#[_,Z,_,Z,_,_,Z,Z,cell p l i (i+1) [] Hc _ 0 _ u6 (by lia) rfl z4]
 have hD1:H1 D=some (.lst (vb ((ba l.length).map (wide L.w λj=>l.getD j false)))):=by
  rw[h1];unfold vb;rw[bB];rfl
 refine#[_,Z,_,Z,by lia,by lia,λD2 JH=>?_];rw[cg];have wl:((ba l.length).map (wide L.w λj=>l.getD j false)).length=l.length:=by simp
 have wg :∀j,j < l.length->((ba l.length).map (wide L.w λj=>l.getD j false)).getD j false=wide L.w (λj=>l.getD j false) j:=λj hj=>by
  rw[bY,aA,fc hj];rfl
 refine JG (λi=>.bl (vF L.w l.length (λj=>l.getD j false) i)) (by lia) JH (λi Hc Q' rR sc q'=>?_) (λH2 s2 h2=>?_)
 ·have hD':=sc _ _ hD1
  have z:=q' Hc (same_refl Hc);unfold vF at z;refine tq (b:=wide L.w (λj=>l.getD j false) i) (b':=(decide (L.w<=i)&&wide L.w (λj=>l.getD j false) (i - L.w)) || (decide (i+L.w < l.length)&&wide L.w (λj=>l.getD j false) (i+L.w))) (λQ2 z2=>?_) (λQ2 z2=>tq (b:=decide (L.w<=i)&&wide L.w (λj=>l.getD j false) (i - L.w)) (b':=decide (i+L.w < l.length)&&wide L.w (λj=>l.getD j false) (i+L.w)) (λQ3 z3=>?_) (λQ3 z3=>?_) z2) z
  ·exact#[_,Z,_,Z,cell D _ i i [] Hc _ 0 _ hD' (by lia) rfl (by rw[wg i rR];exact z2)]
  ·refine uQ (b:=decide (L.w<=i)) (b':=wide L.w (λj=>l.getD j false) (i - L.w)) (λQ4 z4=>?_) (λc Q4 z4=>?_) z3
   ·refine#[_,Z,_,Z,_,_,Z,Z,?_]
    exact FV (JI (show((L.w:Nat):Int)<=((i:Nat):Int)↔L.w<=i by lia)) z4
   have:=of_decide_eq_true c;exact#[_,Z,_,Z,_,Z,_,_,Z,Z,cell D _ i (i - L.w) [] Hc _ 0 _ hD' (by lia) (by lia) (by rw[wg _ (by lia)];exact z4)]
  refine uQ (b:=decide (i+L.w < l.length)) (b':=wide L.w (λj=>l.getD j false) (i+L.w)) (λQ4 z4=>?_) (λc Q4 z4=>?_) z3
  ·refine#[_,Z,_,Z,_,_,Z,Z,_,Z,_,_,Z,Z,?_]
   exact FV (JI (show((i:Nat):Int)+((L.w:Nat):Int) < ((l.length:Nat):Int)↔i+L.w < l.length by lia)) z4
  have:=of_decide_eq_true c;exact#[_,Z,_,Z,_,Z,_,_,Z,Z,cell D _ i (i+L.w) [] Hc _ 0 _ hD' (by lia) (by lia) (by rw[wg _ (by lia)];exact z4)]
 refine q H2 D2 (s1.trans s2) (s1.free JH) ?_;rw[h2];unfold vb rE;rw[bB];rfl
def Ih (a b:Int):(if b < a then b else a)=min a b:=by
 by_cases h:b < a
 ·rw[if_pos h];lia
 rw[if_neg h];lia
def AI (c d:bc):(c == d)=true↔c.1=d.1/\c.2=d.2:=by
 obtain⟨a,b⟩:=c;obtain⟨x,y⟩:=d;rw[beq_iff_eq,Prod.mk.injEq]
def xi (a b c:bc):Bool:=c != a&&wY a b c
def zO (a b c:bc):xi a b c=true↔¬ (c.1=a.1/\c.2=a.2)/\(min a.1 b.1<=c.1/\c.1<=max a.1 b.1)/\(min a.2 b.2<=c.2/\c.2<=max a.2 b.2)/\2 * mj ((b.1 - a.1) * (c.2 - a.2) - (b.2 - a.2) * (c.1 - a.1)) < mj (b.1 - a.1)+mj (b.2 - a.2):=by
 unfold xi wY;rw[aB,bne_iff_ne,Ne,<- beq_iff_eq,AI];simp only[aB,decide_eq_true_eq];constructor
 ·rintro⟨h1,h2,h3,h4,h5,h6⟩;exact#[h1,#[h2,h3],#[h4,h5],h6]
 rintro⟨h1,⟨h2,h3⟩,⟨h4,h5⟩,h6⟩;exact#[h1,h2,h3,h4,h5,h6]
def yw (hw:Sp.WF L) (h:bV L c=true):0<=c.1/\c.1 < 12/\0<=c.2/\c.2 < 12:=by
 unfold bV at h;simp only[aB,decide_eq_true_eq] at h;have:=hw.w1;have:=hw.h1
 lia
structure Cn (H:Hp) (m lv cR:Addr) (be:aU) (t:bc):Prop where
 am :∃dx,H m=some (.ins T.bZ.C dx (DJ (.ref lv) (.ref cR) (.int t.1) (.int t.2)))
 cs:Ck H cR be
theorem Cn.same (h:Cn H m lv cR be t) (s:bo H H'):Cn H' m lv cR be t:=
 #[let⟨dx,z⟩:=h.am;#[dx,s _ _ z],let⟨dx,z⟩:=h.cs;#[dx,s _ _ z]]
def CW (c:bc):Prop:=0<=c.1/\c.1 < 12/\0<=c.2/\c.2 < 12
inductive UT (vs:List V) (H:Hp) (Q:VK) (_:XK):Prop where
 | mk (m lv cR:Addr) (be:aU) (t:bc) (x y:Int) (_:vs=[.ref m,.int x,.int y]) (_:Cn H m lv cR be t) (_:CW be.at_) (_:CW t) (_:Q (.bl (xi be.at_ t (x,y))) H)
def adv:aK aL 1 T.pz (UT):=by
 refine Y.pz.F.run m7 λbx A outer s H vs Q E hr h=>?_;obtain⟨m,lv,cR,be,t,x,y,rfl,hA,hb,ht,q⟩:=h;obtain⟨dx,hm⟩:=hA.am;obtain⟨nW,hc⟩:=hA.cs;refine#[_,(aj (aZ 3 m7.nd (aW (aW (aa 0)))) (aj (aZ 4 m7.nd (aW (aW (aa 0)))) (aj (bG (qK (w_and (dg (aa 1) (aa 3)) (vR (dg (aa 2) (aa 4))))) (aq (aD yk)) bp) (aj (bG (uz (Je (vT Y.uC rfl (aa 3) (aW (aa 0))) (aa 1) (R7 Y.Sa rfl (aa 3) (aW (aa 0))))) (aq (aD yk)) bp) (aj (bG (uz (Je (vT Y.uC rfl (aa 4) (aW (aa 0))) (aa 2) (R7 Y.Sa rfl (aa 4) (aW (aa 0))))) (aq (aD yk)) bp) (aj (aZ 5 m7.nd (kI (aW (aa 0)) (aa 3))) (aj (aZ 6 m7.nd (kI (aW (aa 0)) (aa 4))) (aj (aZ 7 m7.nd (Jg Y.Js (kI (mT (aa 5) (kI (aa 2) (aa 4))) (mT (aa 6) (kI (aa 1) (aa 3)))))) (aq (aD (R3 (mT bL (aa 7)) (iX (Jg Y.Js (aa 5)) (Jg Y.Js (aa 6)))))))))))))),?_];have no:¬ (xi be.at_ t (x,y)=true)->Q (.bl false) H:=λh=>by rw[cD.mpr h] at q;exact q
 have amI :∀(Q':VK) (σ : L2.St),Q' (.ref cR) H->σ[0]?=some (some (.ref m))->jf K (bR 0) "caster" σ H Q':=λQ' σ z e=>#[_,e,m,_,dx,_,_,Z,hm,Y.bZ.cl,Y.eJ,Z,z]
 refine#[_,Z,m,_,dx,_,_,Z,hm,Y.bZ.cl,Y.eJ,Z,cR,_,nW,_,_,Z,hc,Y.aR.cl,Y.fq,Z,?_];refine#[_,Z,m,_,dx,_,_,Z,hm,Y.bZ.cl,Y.eJ,Z,cR,_,nW,_,_,Z,hc,Y.aR.cl,Y.fS,Z,?_];have je:¬ (x=be.at_.1/\y=be.at_.2)->rC (HH (RB (tB (ye GY GY (t2 Bw (bR 3) (jf K (bR 0) "x")) (bR 1) (t2 R5 (bR 3) (jf K (bR 0) "x"))))) (ql (tC (.bl false))) Dk) (rC (HH (RB (tB (ye GY GY (t2 Bw (bR 4) (jf K (bR 0) "y")) (bR 2) (t2 R5 (bR 4) (jf K (bR 0) "y"))))) (ql (tC (.bl false))) Dk)
   (rC (vN (gI (oQ λi j=>V.int (i - j)) (jf K (bR 0) "x") (bR 3)) (l5 5)) (rC (vN (gI (oQ λi j=>V.int (i - j)) (jf K (bR 0) "y") (bR 4)) (l5 6))
   (rC (vN (t1 R4 (gI (oQ λi j=>V.int (i - j)) (gI (rI Dn λi j=>V.int (i * j)) (bR 5) (gI (oQ λi j=>V.int (i - j)) (bR 2) (bR 4))) (gI (rI Dn λi j=>V.int (i * j)) (bR 6) (gI (oQ λi j=>V.int (i - j)) (bR 1) (bR 3))))) (l5 7))
   (ql (gI (oQ λi j=>.bl (decide (i < j))) (gI (rI Dn λi j=>V.int (i * j)) (tC (.int 2)) (bR 7)) (gI (oQ λi j=>V.int (i+j)) (t1 R4 (bR 5)) (t1 R4 (bR 6))))))))) { nx:=λ_ H'=>Q .cj H',rt:=Q } [some (.ref m),some (.int x),some (.int y),some (.int be.at_.1),some (.int be.at_.2),none,none,none] H:=by
  intro h0;obtain⟨b1,b2,b3,b4⟩:=hb;obtain⟨t1,t2,t3,t4⟩:=ht;have fx :∀(Q':VK) (σ : L2.St),σ[0]?=some (some (.ref m))->Q' (.int t.1) H->jf K (bR 0) "x" σ H Q':=λQ' σ e z=>#[_,e,m,_,dx,_,_,Z,hm,Y.bZ.cl,Y.ny,Z,z]
  have fy :∀(Q':VK) (σ : L2.St),σ[0]?=some (some (.ref m))->Q' (.int t.2) H->jf K (bR 0) "y" σ H Q':=λQ' σ e z=>#[_,e,m,_,dx,_,_,Z,hm,Y.bZ.cl,Y.nz,Z,z]
  refine#[_,Z,fx _ _ rfl #[_,_,Z,Z,_,Z,_,_,Z,Z,_,Z,?_]];rw[Ih];refine bE (λc1=>?_) (λc1=>?_)
  ·have c1':=of_decide_eq_true c1
   refine#[_,Z,fx _ _ rfl #[_,_,Z,Z,_,_,Z,Z,_,Z,?_]];rw[Kx];cases c2:decide (x<=max be.at_.1 t.1) with
   | false=>exact cF (no λz=>by have:=((zO _ _ _).mp z).2.1.2;exact absurd this (of_decide_eq_false c2))
   | true=>
    have QM:=of_decide_eq_true c2;refine cH ?_;refine#[_,Z,fy _ _ rfl #[_,_,Z,Z,_,Z,_,_,Z,Z,_,Z,?_]];rw[Ih];refine bE (λc3=>?_) (λc3=>?_)
    ·have c3':=of_decide_eq_true c3
     refine#[_,Z,fy _ _ rfl #[_,_,Z,Z,_,_,Z,Z,_,Z,?_]];rw[Kx];cases c4:decide (y<=max be.at_.2 t.2) with
     | false=>exact cF (no λz=>by have:=((zO _ _ _).mp z).2.2.1.2;exact absurd this (of_decide_eq_false c4))
     | true=>
      have c4':=of_decide_eq_true c4;refine cH ?_;refine#[_,Z,m,_,dx,_,_,Z,hm,Y.bZ.cl,Y.ny,Z,_,Z,_,_,Z,Z,?_];refine#[_,Z,m,_,dx,_,_,Z,hm,Y.bZ.cl,Y.nz,Z,_,Z,_,_,Z,Z,?_];refine#[_,Z,_,Z,_,Z,_,_,Z,Z,_,_,Z,Z,.inl (by lia),_,Z,_,Z,_,Z,_,_,Z,Z,_,_,Z,Z,.inl (by lia),_,_,Z,Z,_,Z,?_];refine#[_,Z,_,_,Z,Z,.inl (by lia),_,Z,_,Z,_,Z,_,Z,_,_,Z,Z,_,_,Z,Z,?_];have e:decide (2 * mj ((t.1 - be.at_.1) * (y - be.at_.2) - (t.2 - be.at_.2) * (x - be.at_.1)) < mj (t.1 - be.at_.1)+mj (t.2 - be.at_.2))=xi be.at_ t (x,y):=by
       apply fX;rw[zO,decide_eq_true_iff];exact#[λz=>#[h0,#[c1',QM],#[c3',c4'],z],λz=>z.2.2.2]
      exact FV e q
    refine#[_,Z,cF (no λz=>?_)];exact c3 (decide_eq_true ((zO _ _ _).mp z).2.2.1.1)
  refine#[_,Z,cF (no λz=>?_)];exact c1 (decide_eq_true ((zO _ _ _).mp z).2.1.1)
 refine#[_,Z,_,Z,Z,_,Z,bE (λc=>?_) (λc=>?_)]
 ·have h1:x=be.at_.1:=V.int.inj (of_decide_eq_true c)
  refine#[_,Z,_,Z,Z,_,Z,bE (λc=>?_) (λc=>?_)]
  ·have h2:y=be.at_.2:=V.int.inj (of_decide_eq_true c)
   exact no λz=>((zO _ _ _).mp z).1 #[h1,h2]
  exact je λz=>c (decide_eq_true (congrArg V.int z.2))
 exact cH (je λz=>c (decide_eq_true (congrArg V.int z.1)))
structure On (H:Hp) (m a g bl:Addr) (bs:List Addr) (cR:Addr) (L:aE) (nx:Nat) (be:aU) (t:bc):Prop where
 am:Cn H m a cR be t
 lv:dh H a g bl bs L nx
 wf:Sp.WF L
 nb:CW be.at_
 nt:CW t
theorem On.same (h:On H m a g bl bs cR L nx be t) (s:bo H H'):On H' m a g bl bs cR L nx be t:=
 #[h.am.same s,h.lv.same s,h.wf,h.nb,h.nt]
inductive Ky (vs:List V) (H:Hp) (Q:VK) (_:XK):Prop where
 | mk (m a g bl:Addr) (bs:List Addr) (cR:Addr) (L:aE) (nx:Nat) (be:aU) (t:bc) (_:vs=[.ref m]) (_:On H m a g bl bs cR L nx be t) (_:Mk (mask L (xi be.at_ t)) H Q)
def QN (L:aE) (p:bc->Bool):(ba (L.w * L.h)).map (λi=>V.bl (p (Sp.cellAt L.w i)))=vb (mask L p):=by
 unfold vb mask;rw[bB];rfl
def aai (AJ:aK aL 1 T.pz (UT)):aK aL 2 T.kS (Ky):=by
 refine Y.kS.F.run uA λbx A outer s H vs Q E hr h=>?_;obtain⟨m,a,g,bl,bs,cR,L,nx,be,t,rfl,O,q⟩:=h;obtain⟨dx,hm⟩:=O.am.am;obtain⟨ez,ha⟩:=O.lv.lv;have FU:=WF.small O.wf;have wC:=O.wf.lZ;refine#[_,(aj (aZ 1 uA.nd (aW (aW (aa 0)))) (aq (aD (lP [("cell",2)] rfl uA.nd (nR Y.i8 (ir Y.iu (aW (aW (aa 0))))) (dJ rfl) (λ_ _ _ _ _=>(gu 2 uA.nd)) (λ_ _ _ _ _=>gO) (λ_ _ _ _ _=>(aJ Y.pz AJ (hr.le rfl) aG (ae (aa 0) (ae (Gp (aa 2) (aa 1)) (ae (Jd (aa 2) (aa 1)) ao))))))))),?_];refine#[_,Z,m,_,dx,_,_,Z,hm,Y.bZ.cl,Y.ft,Z,a,_,ez,_,_,Z,ha,Y.aM.cl,Y.dW,Z,?_];refine#[_,Z,m,_,dx,_,_,Z,hm,Y.bZ.cl,Y.ft,Z,a,_,ez,_,_,Z,ha,Y.aM.cl,Y.dD,Z,g,vi L.ground,Z,.inl (aO.of O.lv.gr),_,Z,by lia,by rw[iz,O.wf.gl];lia,λD hD=>?_];rw[iz,O.wf.gl,cg];refine JG (λi=>.bl (xi be.at_ t (Sp.cellAt L.w i))) (by lia) hD (λi Hc Q' rR sc q'=>?_) (λH1 s1 h1=>?_)
 ·refine#[_,Z,_,Z,_,Z,_,_,Z,Z,by lia,_,Z,_,Z,_,_,Z,Z,#[by lia,by have:=O.wf.w1;lia],m,a,cR,be,t,_,_,Z,O.am.same sc,O.nb,O.nt,?_]
  obtain⟨e1,e2⟩:=DT O.wf i;rw[e1,e2];exact q' Hc (same_refl Hc)
 refine q H1 D s1 hD ?_;rw[h1,QN L (xi be.at_ t)]
inductive UU (vs:List V) (H:Hp) (Q:VK) (_:XK):Prop where
 | mk (m lv cR:Addr) (be:aU) (t:bc) (x y:Int) (_:vs=[.ref m,.int x,.int y]) (_:Cn H m lv cR be t) (_:CW be.at_) (_:CW t) (_:Q (.int (fH be.at_ t (x,y))) H)
def adw:aK aL 1 T.pB (UU):=by
 refine Y.pB.F.run yD λbx A outer s H vs Q E hr h=>?_;obtain⟨m,lv,cR,be,t,x,y,rfl,hA,hb,ht,q⟩:=h;obtain⟨dx,hm⟩:=hA.am;obtain⟨nW,hc⟩:=hA.cs;obtain⟨b1,b2,b3,b4⟩:=hb;obtain⟨t1,t2,t3,t4⟩:=ht;refine#[_,(aj (aZ 3 yD.nd (aW (aW (aa 0)))) (aj (aZ 4 yD.nd (aW (aW (aa 0)))) (aq (aD (iX (mT (kI (aW (aa 0)) (aa 3)) (kI (aa 1) (aa 3))) (mT (kI (aW (aa 0)) (aa 4)) (kI (aa 2) (aa 4)))))))),?_];refine#[_,Z,m,_,dx,_,_,Z,hm,Y.bZ.cl,Y.eJ,Z,cR,_,nW,_,_,Z,hc,Y.aR.cl,Y.fq,Z,?_];refine#[_,Z,m,_,dx,_,_,Z,hm,Y.bZ.cl,Y.eJ,Z,cR,_,nW,_,_,Z,hc,Y.aR.cl,Y.fS,Z,?_];exact⟨_,Z,m,_,dx,_,_,Z,hm,Y.bZ.cl,Y.ny,Z,_,Z,_,_,Z,Z,_,Z,_,Z,_,_,Z,Z,_,_,Z,Z,.inl (by lia),
  _,Z,m,_,dx,_,_,Z,hm,Y.bZ.cl,Y.nz,Z,_,Z,_,_,Z,Z,_,Z,_,Z,_,_,Z,Z,_,_,Z,Z,.inl (by lia),_,_,Z,Z,q⟩
inductive N8 (vs:List V) (H:Hp) (Q:VK) (_:XK):Prop where
 | mk (m a g bl:Addr) (bs:List Addr) (cR:Addr) (L:aE) (nx:Nat) (be:aU) (t:bc) (n:Nat) (_:vs=[.ref m,.int (n:Nat)]) (_:On H m a g bl bs cR L nx be t) (_:n<=1000) (_:Mk (mask L (uc L t n)) H Q)
def WZ (c t:bc):Gz 0 0 t c=(c == t):=by
 apply fX;rw[AI];unfold Gz kP mj;simp only[aB,decide_eq_true_eq]
 lia
def W0 (gh:aK aL 1 T.fb (GA)) (zP:aK aL 1 T.vf (Ig)) :
  aK aL 2 T.m9 (N8):=by
 refine Y.m9.F.run js λbx A outer s H vs Q E hr h=>?_;obtain⟨m,a,g,bl,bs,cR,L,nx,be,t,n,rfl,O,hn,q⟩:=h;obtain⟨dx,hm⟩:=O.am.am;have FU:=WF.small O.wf;have wC:=O.wf.lZ;refine#[_,(aj (aZ 2 js.nd (aW (aa 0))) (aj (aZ 3 js.nd (aJ Y.fb gh (hr.le rfl) aG (ae (aa 2) (ae (aW (aa 0)) (ae (aW (aa 0)) (ae bL (ae bL ao))))))) (aj (kJ PassesOwn.never rfl (nR Y.i8 (aa 1)) (gu 4 js.nd) (aj (aZ 5 js.nd (aJ Y.vf zP (hr.le rfl) aG (ae (aa 3) (ae (aa 2) ao)))) (aq (aZ 3 js.nd (lP [("cell",6)] rfl js.nd (nR Y.i8 (ir Y.iu (aa 3))) (dJ rfl) (λ_ _ _ _ _=>(gu 6 js.nd)) (λ_ _ _ _ _=>gO) (λ_ _ _ _ _=>(DD (bU (aa 3) (aa 6)) (nN (vS (bU (aa 5) (aa 6)) (nN (acC (bU (aW (aa 2)) (aa 6)) (df Y.Fz)))))))))))) (aq (aD (aa 3)))))),?_];refine#[_,Z,m,_,dx,_,_,Z,hm,Y.bZ.cl,Y.ft,Z,?_];refine#[_,Z,_,Z,m,_,dx,_,_,Z,hm,Y.bZ.cl,Y.ny,Z,_,Z,m,_,dx,_,_,Z,hm,Y.bZ.cl,Y.nz,Z,a,g,bl,bs,L,nx,_,_,_,_,Z,O.lv,O.wf,λH1 q1 s1 n1 e1=>?_];refine#[_,Z,_,Z,by lia,by lia,?_];rw[cg];refine rW (λi σ Hc=>∃(q':Addr) (z1 z2 z3:Option V),σ = [some (.ref m),some (.int (n:Nat)),some (.ref a),some (.ref q'),z1,z2,z3]/\bo H Hc/\H q'=none/\Hc q'=some (.lst (vb (mask L (uc L t i))))) #[q1,none,none,none,Z,s1,n1,?_] (λi σ Hc hi e=>?_) (λσ Hc e=>?_)
 ·rw[e1,show Gz 0 0 (t.1,t.2)=uc L t 0 from funext λc=>WZ c (t.1,t.2)]
 ·obtain⟨q',z1,z2,z3,rfl,sc,nq,eq⟩:=e
  have O':=O.same sc;refine#[_,Z,_,Z,q',a,g,bl,bs,L,nx,_,Z,O'.lv,O.wf,eq,gs L _,λH2 q2 s2 n2 e2=>?_];have eq2:=s2 _ _ eq;have O2:=O'.same s2;obtain⟨ez,ha⟩:=O2.lv.lv;refine#[_,Z,q',_,Z,.inl (aO.of eq2),_,Z,by lia,by rw[kZ,gs];lia,λD hD=>?_];rw[kZ,gs,cg];refine JG (λi'=>.bl ((mask L (uc L t i)).getD i' false || ((rE L.w (mask L (uc L t i))).getD i' false&&L.ground.getD i' 0 != 0))) (by lia) hD (λj Hd Q' hj sd qd=>?_) (λH3 s3 h3=>?_)
  ·have z:=qd Hd (same_refl Hd)
   have hgl:(rE L.w (mask L (uc L t i))).length=L.w * L.h:=by unfold rE;simp[gs]
   have N6:j < L.ground.length:=by rw[O.wf.gl];exact hj
   have NN:L.ground[j]?=some (L.ground.getD j 0):=by rw[bY,aw N6];rfl
   refine tq (b:=(mask L (uc L t i)).getD j false) (b':=(rE L.w (mask L (uc L t i))).getD j false&&L.ground.getD j 0 != 0) (λQ2 z2=>?_) (λQ2 z2=>?_) z
   ·exact#[_,Z,_,Z,q',_,_,_,Z,Z,aO.of (sd _ _ eq2),uD (getD_at (by rw[gs];exact hj)),z2]
   refine uQ (b:=(rE L.w (mask L (uc L t i))).getD j false) (b':=L.ground.getD j 0 != 0) (λQ3 z3=>?_) (λ_ Q3 z3=>?_) z2
   ·exact#[_,Z,_,Z,q2,_,_,_,Z,Z,aO.of (sd _ _ e2),uD (getD_at (by rw[hgl];exact hj)),z3]
   refine#[_,Z,a,_,ez,_,_,Z,sd _ _ ha,Y.aM.cl,Y.dD,Z,_,Z,g,vi L.ground,_,_,Z,Z,aO.of (sd _ _ O2.lv.gr),qD NN,Z,?_];have et:(!decide (V.int (L.ground.getD j 0:Nat)=V.int 0))=(L.ground.getD j 0 != 0):=by
    apply fX;simp only[fM,decide_eq_false_iff_not,bne_iff_ne,V.int.injEq]
    lia
   exact FV et z3
  refine#[D,_,_,_,Z,sc.trans (s2.trans s3),sc.free (s2.free hD),?_];rw[h3,<- VC wC];unfold vb;rw[bB];rfl
 obtain⟨q',z1,z2,z3,rfl,sc,nq,eq⟩:=e;exact#[_,Z,q Hc q' sc nq eq]
def xH (L:aE) (a t:bc):List Nat:=(ba (L.w * L.h)).filter λi=>xi a t (Sp.cellAt L.w i)&&(L.ground.getD i 0 == 0)
def N9 (hw:Sp.WF L) (m:J3) (n k:Nat):has L m (.basic 3 n) (Sp.cellAt L.w k)=(xi m.caster m.target (Sp.cellAt L.w k)&&(xH L m.caster m.target).all λi=>decide (fH m.caster m.target (Sp.cellAt L.w k) < fH m.caster m.target (Sp.cellAt L.w i))):=by
 have wC:=hw.lZ;apply fX;show(i5 L m 3 n (Sp.cellAt L.w k))=true↔_;show((Sp.cellAt L.w k != m.caster&&(wY m.caster m.target (Sp.cellAt L.w k)&&(iO L).all λd=>!(wY m.caster m.target d&&(d != m.caster&&(BS L d == 0&&decide (fH m.caster m.target d<=fH m.caster m.target (Sp.cellAt L.w k)))))))=true)↔_;rw[<- Bool.and_assoc];show(xi m.caster m.target (Sp.cellAt L.w k)&&_)=true↔_;rw[aB,aB,oj L wC,Bb,fZ,fZ];refine and_congr_right λ_=>#[λh i hi=>?_,λh i hi=>?_]
 ·unfold xH at hi
  rw[lG,aB] at hi;obtain⟨h1,h2,h3⟩:=hi;have hk:=eW.mp h1;have z:=h i h1;rw[decide_eq_true_iff];unfold xi at h2;rw[aB] at h2;simp only[Function.comp,h2.1,h2.2,Bk wC hk,h3,cT,fM,decide_eq_false_iff_not] at z
  lia
 have hk:=eW.mp hi;show(!(_&&(_&&(_&&_))))=true;rw[Bk wC hk];cases e1:wY m.caster m.target (Sp.cellAt L.w i) with
 | false=>rfl
 | true=>
  cases e2:(Sp.cellAt L.w i != m.caster) with
  | false=>rfl
  | true=>
   cases e3:(L.ground.getD i 0 == 0) with
   | false=>rfl
   | true=>
    have z:=h i (by
     unfold xH xi;rw[lG,e1,e2,e3];exact#[hi,Z])
    rw[decide_eq_true_iff] at z;show(!decide _)=true;rw[fM,decide_eq_false_iff_not]
    lia
inductive QP (vs:List V) (H:Hp) (Q:VK) (_:XK):Prop where
 | mk (m a g bl:Addr) (bs:List Addr) (cR:Addr) (L:aE) (nx:Nat) (be:aU) (t:bc) (_:vs=[.ref m]) (_:On H m a g bl bs cR L nx be t) (_:Mk (mask L (has L ⟨be.at_,be.side,t⟩ (.basic 3 0))) H Q)
def aaj (pO:aK aL 2 T.kS (Ky)) (AK:aK aL 1 T.pB (UU)) :
  aK aL 3 T.pA (QP):=by
 refine Y.pA.F.run gp λbx A outer s H vs Q E hr h=>?_;obtain⟨m,a,g,bl,bs,cR,L,nx,be,t,rfl,O,q⟩:=h;obtain⟨dx,hm⟩:=O.am.am;have FU:=WF.small O.wf;have wC:=O.wf.lZ;refine#[_,(aj (aZ 1 gp.nd (aW (aa 0))) (aj (aZ 2 gp.nd (aJ Y.kS pO (hr.le rfl) aG (ae (aa 0) ao))) (aj (aZ 3 gp.nd (ir Y.iu (aa 2))) (aj (aZ 4 gp.nd (lP [("cell",5)] rfl gp.nd (nR Y.i8 (aa 3)) (dJ rfl) (λ_ _ _ _ _=>(gu 5 gp.nd)) (λ_ _ _ _ _=>gO) (λ_ _ _ _ _=>(aJ Y.pB AK (hr.le rfl) aG (ae (aa 0) (ae (Gp (aa 5) (aW (aa 1))) (ae (Jd (aa 5) (aW (aa 1))) ao))))))) (aj (CD 6 [("cell",5)] rfl gp.nd (nR Y.i8 (aa 3)) (dJ rfl) (λ_ _ _ _ _=>(gu 5 gp.nd)) (λ_ _ _ _ _=>(E9 (qK (w_and (gD (bU (aa 2) (aa 5))) (vR (dg (bU (aW (aa 1)) (aa 5)) (df Y.Fz))))))) (λ_ _ _ _ _=>(bU (aa 4) (aa 5)))) (aj (bG (uz (Ji (aa 6))) (aq (aD (aa 2))) bp) (aj (aZ 7 gp.nd (acJ Y.uC rfl (aa 6))) (aq (aD (lP [("cell",5)] rfl gp.nd (nR Y.i8 (aa 3)) (dJ rfl) (λ_ _ _ _ _=>(gu 5 gp.nd)) (λ_ _ _ _ _=>gO) (λ_ _ _ _ _=>(vS (bU (aa 2) (aa 5)) (nN (R3 (bU (aa 4) (aa 5)) (aa 7))))))))))))))),?_];refine#[_,Z,m,_,dx,_,_,Z,hm,Y.bZ.cl,Y.ft,Z,?_];refine#[_,Z,m,a,g,bl,bs,cR,L,nx,be,t,Z,O,λH1 ln s1 n1 e1=>?_];refine#[_,Z,ln,_,Z,.inl (aO.of e1),?_];have O1:=O.same s1;refine#[_,Z,_,Z,by lia,by rw[kZ,gs];lia,λD hD=>?_];rw[kZ,gs,cg];refine JG (λi=>.int (fH be.at_ t (Sp.cellAt L.w i))) (by lia) hD (λi Hc Q' rR sc q'=>?_) (λH2 s2 e2=>?_)
 ·obtain⟨ez,ha⟩:=(O1.same sc).lv.lv
  refine#[_,Z,_,Z,_,Z,a,_,ez,_,_,Z,ha,Y.aM.cl,Y.dW,Z,_,_,Z,Z,by lia,_,Z,_,Z,a,_,ez,_,_,Z,ha,Y.aM.cl,Y.dW,Z,_,_,Z,Z,#[by lia,by have:=O.wf.w1;lia],m,a,cR,be,t,_,_,Z,(O1.same sc).am,O.nb,O.nt,?_];obtain⟨e1,e2⟩:=DT O.wf i;rw[e1,e2];exact q' Hc (same_refl Hc)
 have O2:=O1.same s2;have eln:=s2 _ _ e1;have Oa :∀j,j < L.w * L.h->w8 ((ba (L.w * L.h)).map λi=>V.int (fH be.at_ t (Sp.cellAt L.w i))) ((j:Nat):Int)=some (.int (fH be.at_ t (Sp.cellAt L.w j))):=λj hj=>b8 (j:=j) (by rw[aA,fc hj];rfl);have QQ :∀j,j < L.w * L.h->w8 (vb (mask L (xi be.at_ t))) ((j:Nat):Int)=some (.bl (xi be.at_ t (Sp.cellAt L.w j))):=λj hj=>uD (uZ hj);refine#[_,Z,_,Z,by lia,by lia,λD2 JH=>?_];rw[cg];refine WX (λi=>xi be.at_ t (Sp.cellAt L.w i)&&(L.ground.getD i 0 == 0)) (λi=>.int (fH be.at_ t (Sp.cellAt L.w i))) (by lia) JH (λi Hc Q' rR sc q'=>?_) (λi Hc Q' rR hp sc q'=>?_) (λH3 s3 e3=>?_)
 ·have z:=q' Hc (same_refl Hc)
  obtain⟨ez,ha⟩:=(O2.same sc).lv.lv;have N6:i < L.ground.length:=by rw[O.wf.gl];exact rR
  have NN:L.ground[i]?=some (L.ground.getD i 0):=by rw[bY,aw N6];rfl
  refine#[_,Z,_,Z,ln,_,_,_,Z,Z,aO.of (sc _ _ eln),QQ i rR,_,Z,bE (λc=>?_) (λc=>?_)]
  ·rw[c,cT] at z
   refine#[_,Z,a,_,ez,_,_,Z,ha,Y.aM.cl,Y.dD,Z,_,Z,g,_,_,_,Z,Z,aO.of (O2.same sc).lv.gr,qD NN,Z,_,Z,?_];have et:decide (V.int (L.ground.getD i 0:Nat)=V.int 0)=(L.ground.getD i 0 == 0):=by
    apply fX;simp only[decide_eq_true_eq,beq_iff_eq,V.int.injEq]
    lia
   rw[et];exact z
  rw[cD.mpr c,dr] at z;exact z
 ·exact#[_,Z,_,Z,D,_,_,_,Z,Z,aO.of (sc _ _ e2),Oa i rR,q' Hc (same_refl Hc)]
 have O3:=O2.same s3;have ady:=s3 _ _ eln;have eD3:=s3 _ _ e2;have hs:bo H H3:=s1.trans (s2.trans s3);have q0:=λ(x:Addr) (H':Hp) (h1:bo H H') (h2:H x=none) (h3:H' x=some (.lst (vb (mask L λc=>has L #[be.at_,be.side,t] (.basic 3 0) c))))=>q H' x h1 h2 h3;refine#[_,Z,_,.inl #[_,aO.of e3,Z],?_];show if(!(!List.isEmpty _))=true then _ else _;rw[Bool.not_not];refine bE (λc=>?_) (λc=>?_)
 ·have ahw:xH L be.at_ t=[]:=by
   have:=List.isEmpty_iff.mp c;exact List.map_eq_nil_iff.mp this
  refine#[_,Z,q H3 ln hs n1 ?_];rw[ady];congr 3;unfold mask;apply cP;intro k hk;rw[N9 O.wf,ahw];simp
 have cG:xH L be.at_ t≠[]:=λz=>c (by
  show List.isEmpty (sL _ (xH L be.at_ t))=true;rw[z];rfl)
 refine#[_,Z,D2,(xH L be.at_ t).map (λi=>fH be.at_ t (Sp.cellAt L.w i)),Z,aO.of (by rw[e3,bB];rfl),?_,λmn hmn hle=>?_]
 ·rw[ai];exact List.length_pos_iff.mpr cG
 refine#[_,Z,_,Z,by lia,by lia,λD4 hD4=>?_];rw[cg];refine JG (λi=>.bl (xi be.at_ t (Sp.cellAt L.w i)&&decide (fH be.at_ t (Sp.cellAt L.w i) < mn))) (by lia) hD4 (λi Hc Q' rR sc q'=>?_) (λH4 s4 e4=>?_)
 ·refine uQ (b:=xi be.at_ t (Sp.cellAt L.w i)) (b':=decide (fH be.at_ t (Sp.cellAt L.w i) < mn)) (λQ2 z2=>?_) (λ_ Q2 z2=>?_) (q' Hc (same_refl Hc))
  ·exact#[_,Z,_,Z,ln,_,_,_,Z,Z,aO.of (sc _ _ ady),QQ i rR,z2]
  exact#[_,Z,_,Z,D,_,_,_,Z,Z,aO.of (sc _ _ eD3),Oa i rR,_,Z,_,_,Z,Z,z2]
 refine q H4 D4 (hs.trans s4) (hs.free hD4) ?_;rw[e4,<- QN];congr 2;apply cP;intro k hk;rw[N9 O.wf];congr 2;apply fX;rw[decide_eq_true_iff,fZ];constructor
 ·intro h i hi
  rw[decide_eq_true_iff];have:=hle _ (bX.mpr #[i,hi,Z]);show fH be.at_ t _ < fH be.at_ t _
  lia
 intro h;obtain⟨i,hi,e⟩:=bX.mp hmn;have:=h i hi;rw[decide_eq_true_iff] at this;have:fH be.at_ t (Sp.cellAt L.w k) < fH be.at_ t (Sp.cellAt L.w i):=this
 lia
def ke (L:aE):Prop:=(L.beings.map (·.at_)).Nodup
theorem Ob {c:bc} {q:aU->Bool} :∀{l:List aU},(l.map (·.at_)).Nodup->(l.any λb=>b.at_ == c&&q b)=(match l.find? λb=>b.at_ == c with
  | none=>false
  | some b=>q b)
 | [],_=>rfl
 | b::r,h=>by
  rw[cv,lF] at h;rw[gQ,jM];cases e:(b.at_ == c) with
  | false=>
   rw[dr,qT];exact Ob h.2
  | true=>
   rw[cT];have:(r.any λb=>b.at_ == c&&q b)=false:=by
    rw[List.any_eq_false];intro x hx z;rw[aB] at z;have e1:b.at_=c:=by simpa using e
    have e2:x.at_=c:=by simpa using z.1
    exact h.1 (bX.mpr #[x,hx,by rw[e2,e1]])
   rw[this,fE]
def W2 (hw:Sp.WF L) (hc:bV L c=true):(mask L p).set (gz L c) true=mask L λd=>p d || d == c:=by
 have kE:=EI hc;have wC:=hw.lZ;apply fi;intro k;rw[List.getElem?_set];by_cases hk:k < L.w * L.h
 ·rw[uZ (p:=λd=>p d || d == c) hk]
  by_cases e:gz L c=k
  ·rw[if_pos e,if_pos (by rw[gs];lia)]
   have:Sp.cellAt L.w k=c:=((BV hc).mpr e).symm;rw[this];simp
  rw[if_neg e,uZ hk];have:(Sp.cellAt L.w k == c)=false:=by
   rw[beq_eq_false_iff_ne];intro z;exact e ((BV hc).mp z.symm)
  rw[this,fE]
 rw[if_neg (by lia),dG (by rw[gs];lia),dG (by rw[gs];lia)]
def condB (k:Nat) (side:Nat) (b:aU):Bool:=k == 13 || (if k=14 then b.side != side else b.side == side)
def UW (hd:ke L) (m:J3) (h1:13<=k):has L m (.basic k n)=λc=>L.beings.any λb=>b.at_ == c&&condB k m.side b:=by
 funext c;rw[Ob hd];show(if k=7 then uc L m.target n c else i5 L m k n c)=_;rw[if_neg (by lia)];unfold i5;rw[if_neg (by lia),if_neg (by lia),if_neg (by lia),if_neg (by lia),if_neg (by lia),if_neg (by lia),if_neg (by lia),if_neg (by lia)];unfold gy;cases L.beings.find? λb=>b.at_ == c <;> rfl
def QR (h:j < n):EW n ((j:Nat):Int)=some j:=by
 unfold EW;rw[if_pos (by lia),if_pos (by lia),cg]
inductive LH (vs:List V) (H:Hp) (Q:VK) (_:XK):Prop where
 | mk (m a g bl:Addr) (bs:List Addr) (cR:Addr) (L:aE) (nx:Nat) (be:aU) (t:bc) (k:Nat) (_:vs=[.str (sb (aF.getD k [])),.ref m]) (_:On H m a g bl bs cR L nx be t) (_:ke L) (_:13<=k) (_:k < 16) (_:Mk (mask L (has L ⟨be.at_,be.side,t⟩ (.basic k 0))) H Q)
def UX (fG:aK aL 1 T.eG (xG)):aK aL 2 T.nc (LH):=by
 refine Y.nc.F.run pj λbx A outer s H vs Q E hr h=>?_;obtain⟨m,a,g,bl,bs,cR,L,nx,be,t,k,rfl,O,hd,wx,Pt,q⟩:=h;obtain⟨dx,hm⟩:=O.am.am;obtain⟨ez,ha⟩:=O.lv.lv;obtain⟨nW,hc⟩:=O.am.cs;have FU:=WF.small O.wf;have wC:=O.wf.lZ;rw[UW hd _ wx] at q;refine#[_,(aj (CD 2 [("ground",3)] rfl pj.nd (fo (aW (aW (aa 1)))) (dJ rfl) (λ_ _ _ _ _=>(gu 3 pj.nd)) (λ_ _ _ _ _=>gO) (λ_ _ _ _ _=>yk)) (aj (kJ PassesOwn.never rfl (fo (aW (aW (aa 1)))) (gu 4 pj.nd) (aj (aZ 5 pj.nd (HP (aW (aa 4)) (aW (aW (aa 1))))) (aq (bG (qK (w_or (dg (aa 0) dB) (oX (dg (HP (aa 0) dB) (aa 5))))) (aq (Yu yk (acL (aa 2) (eQ Y.eG Y.aM.cl fG (hr.le rfl) aG (aW (aa 1)) (ae (aW (aa 4)) (ae (aW (aa 4)) ao)))))) bp)))) (aq (aD (aa 2))))),?_];refine#[_,Z,m,_,dx,_,_,Z,hm,Y.bZ.cl,Y.ft,Z,a,_,ez,_,_,Z,ha,Y.aM.cl,Y.dD,Z,g,Z,#[_,aO.of O.lv.gr],λD hD=>?_];refine LG (λ_=>.bl false) (by rw[iz,O.wf.gl];lia) O.lv.gr hD (λi v Hc Q' hv sc q'=>q' Hc (same_refl Hc)) (λH1 s1 e1=>?_);have YL:H1 D=some (.lst (vb (mask L λc=>(L.beings.take 0).any λb=>b.at_ == c&&condB k be.side b))):=by
  rw[e1];unfold vb mask vi;rw[bB,bB];congr 2;apply fi;intro j;rw[aA,aA];by_cases hj:j < L.w * L.h
  ·rw[fc hj,aw (by rw[O.wf.gl];exact hj)];rfl
  rw[dG (by rw[O.wf.gl];lia),dG (by simp;lia)];rfl
 have O1:=O.same s1;obtain⟨oS,hm1⟩:=O1.am.am;obtain⟨ahx,yu⟩:=O1.lv.lv;refine#[_,Z,m,_,oS,_,_,Z,hm1,Y.bZ.cl,Y.ft,Z,a,_,ahx,_,_,Z,yu,Y.aM.cl,Y.dE,Z,bl,Z,#[_,aO.of O1.lv.bl],?_];have eP:bs.length=L.beings.length:=O.lv.be.length;refine jD (xs:=bs.map V.ref) (λi σ Hc=>∃z1 z2 z3,σ = [some (.str (sb (aF.getD k []))),some (.ref m),some (.ref D),z1,z2,z3]/\bo H Hc/\Hc D=some (.lst (vb (mask L λc=>(L.beings.take i).any λb=>b.at_ == c&&condB k be.side b)))) #[none,none,none,Z,s1,YL] (λi σ Hc _ e=>?_) (λi x σ Hc hx e=>?_) (λσ Hc e=>?_)
 ·obtain⟨_,_,_,_,sc,_⟩:=e
  exact aO.of (O.same sc).lv.bl
 ·obtain⟨z1,z2,z3,rfl,sc,eD⟩:=e
  have Oc:=O.same sc;obtain⟨nX,Ew⟩:=Oc.am.am;obtain⟨FW,QU⟩:=Oc.lv.lv;obtain⟨dxk,ES⟩:=Oc.am.cs;obtain⟨b,st,fO,rfl,hb,hs,hB⟩:=wB Oc.lv.be hx;have il:=O.wf.ins st (aP hs);have YM:L.beings.take (i+1)=L.beings.take i++[st]:=by rw[bW,hs];rfl
  refine#[_,Z,b,_,fO,_,_,Z,hB,Y.aR.cl,Y.mM,Z,_,Z,m,_,nX,_,_,Z,Ew,Y.bZ.cl,Y.eJ,Z,cR,_,dxk,_,_,Z,ES,Y.aR.cl,Y.mM,Z,Z,?_];have ef:decide (V.int (st.side:Nat)=V.int (be.side:Nat))=(st.side == be.side):=by
   apply fX;simp only[decide_eq_true_eq,beq_iff_eq,V.int.injEq]
   lia
  rw[ef];have yes:condB k be.side st=true->vN (tC (.bl true)) (RD (bR 2) (HS T.aM.C "cell" (xG) E0 (jf K (bR 1) "level") (eM (jf K (bR 4) "x") (eM (jf K (bR 4) "y") lO))) Mw) { nx:=λσ Hc=>∃z1 z2 z3,σ = [some (.str (sb (aF.getD k []))),some (.ref m),some (.ref D),z1,z2,z3]/\bo H Hc/\Hc D=some (.lst (vb (mask L λc=>(L.beings.take (i+1)).any λb=>b.at_ == c&&condB k be.side b))),rt:=Q } [some (.str (sb (aF.getD k []))),some (.ref m),some (.ref D),z1,some (.ref b),some (.bl (st.side == be.side))] Hc:=λhy=>by
   refine#[_,Z,_,Z,m,_,nX,_,_,Z,Ew,Y.bZ.cl,Y.ft,Z,a,FW,_,Z,QU,qO,_,Z,b,_,fO,_,_,Z,hB,Y.aR.cl,Y.fq,Z,_,Z,b,_,fO,_,_,Z,hB,Y.aR.cl,Y.fS,Z,a,g,bl,bs,L,nx,_,_,Z,Oc.lv,O.wf.w1,?_];have e2:st.at_.2 * ((L.w:Nat):Int)+st.at_.1=((gz L st.at_:Nat):Int):=(om il).2.symm;rw[e2];refine#[D,_,_,gz L st.at_,Z,Z,eD,?_,z1,some (.ref b),some (.bl (st.side == be.side)),Z,λb' o' ho=>?_,?_]
   ·refine QR ?_
    rw[kZ,gs];exact EI il
   ·rw[au (aI ho hD)];exact sc _ _ ho
   rw[ah];congr 2;have z:=W2 O.wf (p:=λc=>(L.beings.take i).any λb=>b.at_ == c&&condB k be.side b) il;unfold vb;rw[<- List.map_set,z];congr 1;unfold mask;apply cP;intro j hj;dsimp only;rw[YM,wZ,gQ,Gd,fE,hy,nF];congr 1;exact BEq.comm
  have no:condB k be.side st=false->∃UQ N3 UR,[some (.str (sb (aF.getD k []))),some (.ref m),some (.ref D),z1,some (.ref b),some (.bl (st.side == be.side))]=[some (V.str (sb (aF.getD k []))),some (.ref m),some (.ref D),UQ,N3,UR]/\bo H Hc/\Hc D=some (.lst (vb (mask L λc=>(L.beings.take (i+1)).any λb=>b.at_ == c&&condB k be.side b))):=λhy=>by
   refine#[_,_,_,Z,sc,?_];rw[eD];congr 3;unfold mask;apply cP;intro j hj;dsimp only;rw[YM,wZ,gQ,Gd,fE,hy,xR,fE]
  refine#[_,Z,Z,_,Z,bE (λc=>?_) (λc=>?_)]
  ·have YJ:k=13:=nm (j:=13) Pt (by decide) c
   exact cF (yes (by unfold condB;rw[YJ];rfl))
  have YJ:k≠13:=nn (j:=13) Pt (by decide) c;refine#[_,Z,Z,_,Z,Z,_,Z,?_];have e15:decide (V.str (sb (aF.getD k []))=V.str "friends")=decide (k=15):=Ss (j:=15) Pt (by decide);rw[e15];have ec:decide (V.bl (decide (k=15))=V.bl (st.side == be.side))=condB k be.side st:=by
   unfold condB;rw[show(k == 13)=false from by simp[YJ],qT];by_cases h15:k=15
   ·rw[if_neg (by lia),decide_eq_true h15]
    cases (st.side == be.side) <;> rfl
   rw[if_pos (by lia),decide_eq_false h15];unfold bne;cases (st.side == be.side) <;> rfl
  rw[ec];refine bE (λc=>?_) (λc=>?_)
  ·exact yes c
  exact no (cD.mpr c)
 obtain⟨z1,z2,z3,rfl,sc,eD⟩:=e;refine#[_,Z,q Hc D sc hD ?_];rw[eD,ai,eP,cq]
def Su (c t:bc):0<=kP c t:=by
 unfold kP mj;split <;> lia
def Sv (h1:8<=k) (h2:k<=12):(dP.map V.str)[k - 8]?=some (.str (sb (aF.getD k [])))/\∀(m:Nat) (z':V),m < k - 8->(dP.map V.str)[m]?=some z'->Bs z' (.str (sb (aF.getD k [])))=false:=by
 obtain⟨j,rfl⟩ :∃j,k=8+j:=#[k - 8,by lia]
 have hj:j < 5:=by lia
 match j,hj with
 | 0,_=>exact#[Z,λm z hm=>by lia]
 | 1,_=>exact⟨Z,λm z hm h=>by
   match m,hm with
   | 0,_=>cases h;rfl⟩
 | 2,_=>exact⟨Z,λm z hm h=>by
   match m,hm with
   | 0,_=>cases h;rfl
   | 1,_=>cases h;rfl⟩
 | 3,_=>exact⟨Z,λm z hm h=>by
   match m,hm with
   | 0,_=>cases h;rfl
   | 1,_=>cases h;rfl
   | 2,_=>cases h;rfl⟩
 | 4,_=>exact⟨Z,λm z hm h=>by
   match m,hm with
   | 0,_=>cases h;rfl
   | 1,_=>cases h;rfl
   | 2,_=>cases h;rfl
   | 3,_=>cases h;rfl⟩
def Hu (L:aE) (hw:Sp.WF L) (f:Nat->Bool) (p:bc->Bool) (h :∀k,k < L.w * L.h->p (Sp.cellAt L.w k)=f (L.ground.getD k 0)):L.ground.map (λg=>V.bl (f g))=vb (mask L p):=by
 unfold vb mask;rw[bB];apply fi;intro j;rw[aA,aA];by_cases hj:j < L.w * L.h
 ·have hg:j < L.ground.length:=by rw[hw.gl];exact hj
  rw[fc hj,aw hg];show some (V.bl (f L.ground[j]))=some (V.bl (p (Sp.cellAt L.w j)));rw[h j hj,bY,aw hg];rfl
 rw[dG (by rw[hw.gl];lia),dG (by simp;lia)];rfl
inductive Hv (vs:List V) (H:Hp) (Q:VK) (_:XK):Prop where
 | mk (m a g bl:Addr) (bs:List Addr) (cR:Addr) (L:aE) (nx:Nat) (be:aU) (t:bc) (k n:Nat) (_:vs=[.str (sb (aF.getD k [])),.int (n:Nat),.ref m]) (_:On H m a g bl bs cR L nx be t) (_:ke L) (_:k < 16) (_:n<=9) (_:(n=0\/(5<=k/\k<=7))) (_:Mk (mask L (has L ⟨be.at_,be.side,t⟩ (.basic k n))) H Q)
def Pn (gh:aK aL 1 T.fb (GA)) (yP:aK aL 2 T.m9 (N8))
  (pO:aK aL 2 T.kS (Ky)) (AL:aK aL 3 T.pA (QP)) (yQ:aK aL 2 T.nc (LH)) :
  aK aL 4 T.mr (Hv):=by
 refine Y.mr.F.run ly λbx A outer s H vs Q E hr h=>?_;obtain⟨m,a,g,bl,bs,cR,L,nx,be,t,k,n,rfl,O,hd,hk,hn,X9,q⟩:=h;obtain⟨dx,hm⟩:=O.am.am;obtain⟨ez,ha⟩:=O.lv.lv;obtain⟨nW,hc⟩:=O.am.cs;have FU:=WF.small O.wf;have wC:=O.wf.lZ;have di :∀p:bc->Bool,(∀c,p c=has L ⟨be.at_,be.side,t⟩ (.basic k n) c)->Mk (mask L p) H Q:=λp h=>by
  rw[show p=has L #[be.at_,be.side,t] (.basic k n) from funext h];exact q
 have hb:k≠7->∀c,has L ⟨be.at_,be.side,t⟩ (.basic k n) c=i5 L ⟨be.at_,be.side,t⟩ k n c:=λh c=>by
  show(if k=7 then _ else _)=_;rw[if_neg h]
 refine#[_,(aj (aZ 3 ly.nd (aW (aa 2))) (aj (bG (dg (aa 0) dB) (aq (aD (lP [("ground",4)] rfl ly.nd (fo (aW (aa 3))) (dJ rfl) (λ_ _ _ _ _=>(gu 4 ly.nd)) (λ_ _ _ _ _=>gO) (λ_ _ _ _ _=>yk)))) bp) (aj (bG (HR (aa 0) (mX Y.fR.m)) (aq (aD (lP [("ground",4)] rfl ly.nd (fo (aW (aa 3))) (dJ rfl) (λ_ _ _ _ _=>(gu 4 ly.nd)) (λ_ _ _ _ _=>gO) (λ_ _ _ _ _=>(HP (aa 4) (Yx Y.fR (aa 0))))))) bp) (aj (bG (dg (aa 0) dB) (aq (aD (aJ Y.fb gh (hr.le rfl) aG (ae (aa 3) (ae (aW (aW (aa 2))) (ae (aW (aW (aa 2))) (ae bL (ae bL ao)))))))) bp) (aj (bG (qK (w_or (dg (aa 0) dB) (oX (dg (aa 0) dB)))) (aq (aD (aJ Y.fb gh (hr.le rfl) aG (ae (aa 3) (ae (aW (aa 2)) (ae (aW (aa 2)) (ae bL (ae (aa 1) ao)))))))) bp) (aj (bG (dg (aa 0) dB) (aq (aD (aJ Y.fb gh (hr.le rfl) aG (ae (aa 3) (ae (aW (aa 2)) (ae (aW (aa 2)) (ae (aa 1) (ae (aa 1) ao)))))))) bp) (aj (bG (dg (aa 0) dB) (aq (aD (aJ Y.m9 yP (hr.le rfl) aG (ae (aa 2) (ae (aa 1) ao))))) bp) (aj (bG (dg (aa 0) dB) (aq (aD (aJ Y.kS pO (hr.le rfl) aG (ae (aa 2) ao)))) bp) (aj (bG (dg (aa 0) dB) (aq (aD (aJ Y.pA AL (hr.le rfl) aG (ae (aa 2) ao)))) bp) (aq (aD (aJ Y.nc yQ (hr.le rfl) aG (ae (aa 0) (ae (aa 2) ao)))))))))))))),?_];refine#[_,Z,m,_,dx,_,_,Z,hm,Y.bZ.cl,Y.ft,Z,?_];refine#[_,Z,Z,_,Z,bE (λc=>?_) (λc=>?_)]
 ·have h4:k=4:=nm (j:=4) hk (by decide) c
  subst h4;refine#[_,Z,a,_,ez,_,_,Z,ha,Y.aM.cl,Y.dD,Z,g,Z,#[_,aO.of O.lv.gr],λD hD=>?_];refine LG (λ_=>.bl true) (by rw[iz,O.wf.gl];lia) O.lv.gr hD (λi v Hc Q' hv sc q'=>q' Hc (same_refl Hc)) (λH1 s1 e1=>?_);refine q H1 D s1 hD ?_;rw[e1,<- Hu L O.wf (λ_=>true) _ (λk' ub=>rfl)];unfold vi;rw[bB];rfl
 have h4:k≠4:=nn (j:=4) hk (by decide) c;refine#[_,Z,_,_,Z,.inr (Y.fR.q _),Z,sr dP,_,Z,?_];show(if(pf (.str (sb (aF.getD k []))) (dP.map V.str))=true then _ else _);rw[zM,N2 hk];refine bE (λc=>?_) (λc=>?_)
 ·have hg:8<=k/\k<=12:=of_decide_eq_true c
  refine#[_,Z,a,_,ez,_,_,Z,ha,Y.aM.cl,Y.dD,Z,g,Z,#[_,aO.of O.lv.gr],λD hD=>?_];refine LG (λv=>.bl (decide (v=.int ((k - 8:Nat):Int)))) (by rw[iz,O.wf.gl];lia) O.lv.gr hD (λi v Hc Q' hv sc q'=>?_) (λH1 s1 e1=>?_)
  ·unfold vi at hv
   rw[aA] at hv;cases hb:L.ground[i]? with
   | none=>rw[hb] at hv;cases hv
   | some gg=>
    rw[hb] at hv;cases hv;obtain⟨i1,i2⟩:=Sv hg.1 hg.2;exact#[_,Z,_,Z,Z,sr dP,k - 8,_,i1,by show(sb _ == sb _)=true;simp,i2,Z,q' Hc (same_refl Hc)]
  refine q H1 D s1 hD ?_;rw[e1,<- Hu L O.wf (λgg=>decide (V.int ((gg:Nat):Int)=.int ((k - 8:Nat):Int))) _ (λk' ub=>?_)]
  ·unfold vi
   rw[bB];rfl
  rw[hb (by lia)];unfold i5;rw[if_neg (by lia),if_neg (by lia),if_neg (by lia),if_neg (by lia),if_neg (by lia),if_neg (by lia),if_neg (by lia),if_pos (by lia),Bk wC ub];apply fX;simp only[decide_eq_true_eq,beq_iff_eq,V.int.injEq]
  lia
 have hg:¬ (8<=k/\k<=12):=λz=>c (decide_eq_true z);refine#[_,Z,Z,_,Z,bE (λc=>?_) (λc=>?_)]
 ·have h0:k=0:=nm (j:=0) hk (by decide) c
  refine#[_,Z,_,Z,m,_,dx,_,_,Z,hm,Y.bZ.cl,Y.eJ,Z,cR,_,nW,_,_,Z,hc,Y.aR.cl,Y.fq,Z,_,Z,m,_,dx,_,_,Z,hm,Y.bZ.cl,Y.eJ,Z,cR,_,nW,_,_,Z,hc,Y.aR.cl,Y.fS,Z,a,g,bl,bs,L,nx,_,_,_,_,Z,O.lv,O.wf,di _ (λc=>?_)];rw[hb (by lia),WZ];unfold i5;rw[if_pos h0]
 have h0:k≠0:=nn (j:=0) hk (by decide) c;have adz:(k=1\/k=5)->ql (E8 (GA) E0 (eM (bR 3) (eM (jf K (bR 2) "x") (eM (jf K (bR 2) "y") (eM (tC (.int 0)) (eM (bR 1) lO)))))) { nx:=λ_ H'=>False,rt:=Q } [some (.str (sb (aF.getD k []))),some (.int (n:Nat)),some (.ref m),some (.ref a),none] H:=λh=>by
  refine#[_,Z,_,Z,m,_,dx,_,_,Z,hm,Y.bZ.cl,Y.ny,Z,_,Z,m,_,dx,_,_,Z,hm,Y.bZ.cl,Y.nz,Z,_,Z,a,g,bl,bs,L,nx,_,_,_,_,Z,O.lv,O.wf,di _ (λc=>?_)];rw[hb (by lia)];unfold i5;rw[if_neg h0];rcases h with h | h
  ·have:n=0:=by lia
   subst this;rw[if_pos h];exact WZ c t
  rw[if_neg (by lia),if_neg (by lia),if_neg (by lia),if_neg (by lia),if_pos h];unfold Gz;have:=Su c (t.1,t.2);rw[decide_eq_true this,cT]
 refine#[_,Z,Z,_,Z,bE (λc=>?_) (λc=>?_)]
 ·exact cF (adz (.inl (nm (j:=1) hk (by decide) c)))
 have h1:k≠1:=nn (j:=1) hk (by decide) c;refine#[_,Z,Z,_,Z,bE (λc=>?_) (λc=>?_)]
 ·exact adz (.inr (nm (j:=5) hk (by decide) c))
 have h5:k≠5:=nn (j:=5) hk (by decide) c;refine#[_,Z,Z,_,Z,bE (λc=>?_) (λc=>?_)]
 ·have h6:k=6:=nm (j:=6) hk (by decide) c
  refine#[_,Z,_,Z,m,_,dx,_,_,Z,hm,Y.bZ.cl,Y.ny,Z,_,Z,m,_,dx,_,_,Z,hm,Y.bZ.cl,Y.nz,Z,_,Z,_,Z,a,g,bl,bs,L,nx,_,_,_,_,Z,O.lv,O.wf,di _ (λc=>?_)];rw[hb (by lia)];unfold i5;rw[if_neg h0,if_neg h1,if_neg (by lia),if_neg (by lia),if_neg h4,if_neg h5,if_pos h6];unfold Gz;apply fX;simp only[aB,decide_eq_true_eq];show _↔kP c t=_;constructor
  ·rintro⟨z1,z2⟩
   have z1:((n:Nat):Int)<=kP c t:=z1;have z2:kP c t<=((n:Nat):Int):=z2
   lia
  intro z;have z1:((n:Nat):Int)<=kP c t:=by lia
  have z2:kP c t<=((n:Nat):Int):=by lia
  exact#[z1,z2]
 have h6:k≠6:=nn (j:=6) hk (by decide) c;refine#[_,Z,Z,_,Z,bE (λc=>?_) (λc=>?_)]
 ·have h7:k=7:=nm (j:=7) hk (by decide) c
  refine#[_,Z,_,Z,m,a,g,bl,bs,cR,L,nx,be,t,n,Z,O,by lia,di _ (λc=>?_)];show _=(if k=7 then _ else _);rw[if_pos h7]
 have h7:k≠7:=nn (j:=7) hk (by decide) c;have hn0:n=0:=by lia
 subst hn0;refine#[_,Z,Z,_,Z,bE (λc=>?_) (λc=>?_)]
 ·have h2:k=2:=nm (j:=2) hk (by decide) c
  refine#[_,Z,m,a,g,bl,bs,cR,L,nx,be,t,Z,O,di _ (λc=>?_)];rw[hb h7];unfold i5;rw[if_neg h0,if_neg h1,if_pos h2];rfl
 have h2:k≠2:=nn (j:=2) hk (by decide) c;refine#[_,Z,Z,_,Z,bE (λc=>?_) (λc=>?_)]
 ·have h3:k=3:=nm (j:=3) hk (by decide) c
  subst h3;exact#[_,Z,m,a,g,bl,bs,cR,L,nx,be,t,Z,O,q]
 have h3:k≠3:=nn (j:=3) hk (by decide) c;exact#[_,Z,_,Z,m,a,g,bl,bs,cR,L,nx,be,t,k,Z,O,hd,by lia,hk,q]
def adA (H:Hp) (a:Addr) (l:List Bool):Prop:=H a=some (.lst (vb l))
def zC (H:Hp):List Addr->List (List Bool)->Prop:=Paired (adA H)
theorem YN {H:Hp} {a fl:Addr} {l:List Bool} {fs:List Addr} (h:adA H a l) (hl:l≠[]) (hf:H fl=some (.lst (fs.map V.ref))):a≠fl:=λe=>by
 have h':H a=some (.lst (vb l)):=h;rw[e,hf] at h';have:=HO.lst.inj (bN.inj h');cases l with
 | nil=>exact hl rfl
 | cons b r=>
  cases fs with
  | nil=>cases this
  | cons f q=>cases this
def adB (h:uY (vJ L m) it iI=some v) (hl :∀l∈iI,l.length=L.w * L.h):v.length=L.w * L.h:=by
 cases it with
 | sim k n=>
  obtain⟨_,rfl⟩:=CV h;exact gs L _
 | no=>
  obtain⟨x,rfl,rfl⟩:=FQ h;show(x.map _).length=_;rw[ai];exact hl x (by simp)
 | grow=>
  obtain⟨x,rfl,rfl⟩:=AH h;show(rE _ x).length=_;unfold rE;simp;exact hl x (by simp)
 | both=>
  obtain⟨x,y,rfl,rfl⟩:=zN h;show((ba x.length).map _).length=_;simp;exact hl x (by simp)
 | either=>
  obtain⟨x,y,rfl,rfl⟩:=vt h;show((ba x.length).map _).length=_;simp;exact hl x (by simp)
inductive JJ (vs:List V) (H:Hp) (Q:VK) (_:XK):Prop where
 | mk (op a g bl:Addr) (bs as:List Addr) (L:aE) (nx:Nat) (m:J3) (it:Sp.Itm) (iI:List (List Bool)) (v:List Bool) (_:vs=[.str (sb (mG it)),.ref op,.ref a]) (_:dh H a g bl bs L nx) (_:Sp.WF L) (_:H op=some (.lst (as.map V.ref))) (_:zC H as iI) (_:(∀l∈iI,l.length=L.w * L.h)) (_:arity it≠0) (_:uY (vJ L m) it iI=some v) (_:Mk v H Q)
def Sx (zP:aK aL 1 T.vf (Ig)):aK aL 2 T.kl (JJ):=by
 refine Y.kl.F.run gi λbx A outer s H vs Q E hr h=>?_;obtain⟨op,a,g,bl,bs,as,L,nx,m,it,iI,v,rfl,hL,hw,ho,hA,hl,NW,hv,q⟩:=h;have FU:=WF.small hw;refine#[_,(aj (aZ 3 gi.nd (bU (aa 1) bL)) (aj (bG (dg (aa 0) dB) (aq (aD (lP [("inside",4)] rfl gi.nd (fo (aa 3)) (dJ rfl) (λ_ _ _ _ _=>(gu 4 gi.nd)) (λ_ _ _ _ _=>gO) (λ_ _ _ _ _=>(aeR (aa 4)))))) bp) (aj (bG (dg (aa 0) dB) (aq (aD (aJ Y.vf zP (hr.le rfl) aG (ae (aa 3) (ae (aa 2) ao))))) bp) (aj (aZ 5 gi.nd (bU (aa 1) bL)) (aj (bG (dg (aa 0) dB) (aq (aD (lP [("cell",6)] rfl gi.nd (nR Y.i8 (ir Y.iu (aa 3))) (dJ rfl) (λ_ _ _ _ _=>(gu 6 gi.nd)) (λ_ _ _ _ _=>gO) (λ_ _ _ _ _=>(vS (bU (aa 3) (aa 6)) (nN (bU (aa 5) (aa 6)))))))) bp) (aq (aD (lP [("cell",6)] rfl gi.nd (nR Y.i8 (ir Y.iu (aa 3))) (dJ rfl) (λ_ _ _ _ _=>(gu 6 gi.nd)) (λ_ _ _ _ _=>gO) (λ_ _ _ _ _=>(DD (bU (aa 3) (aa 6)) (nN (bU (aa 5) (aa 6))))))))))))),?_];cases it with
 | sim k n=>exact absurd rfl NW
 | no=>
  obtain⟨x,rfl,rfl⟩:=FQ hv;cases hA with
  | @cons a1 _ _ _ h1 r=>
   cases r;have hx:=hl x (by simp);refine#[_,Z,op,_,_,_,Z,Z,aO.of ho,b8 (j:=0) rfl,?_];refine#[_,Z,Z,_,Z,cF ?_];refine#[_,Z,a1,Z,#[_,aO.of h1],λD hD=>?_];refine LG (λv=>match v with | .bl b=>.bl (!b) | _=>.cj) (by rw[kZ,hx];lia) h1 hD (λi v Hc Q' hv sc q'=>?_) (λH1 s1 e1=>?_)
   ·unfold vb at hv
    rw[aA] at hv;cases hb:x[i]? with
    | none=>rw[hb] at hv;cases hv
    | some gg=>
     rw[hb] at hv;cases hv;exact#[_,Z,_,Z,q' Hc (same_refl Hc)]
   refine q H1 D s1 hD ?_;rw[e1];unfold vb;rw[bB];show _=some (HO.lst (sL V.bl (x.map λb=>!b)));rw[bB];rfl
 | grow=>
  obtain⟨x,rfl,rfl⟩:=AH hv;cases hA with
  | @cons a1 _ _ _ h1 r=>
   cases r;have hx:=hl x (by simp);refine#[_,Z,op,_,_,_,Z,Z,aO.of ho,b8 (j:=0) rfl,?_];refine#[_,Z,Z,_,Z,cH ?_];refine#[_,Z,Z,_,Z,cF ?_];exact#[_,Z,_,Z,a1,a,g,bl,bs,L,nx,x,Z,hL,hw,h1,hx,q]
 | both=>
  obtain⟨x,y,rfl,rfl⟩:=zN hv;cases hA with
  | @cons a1 _ _ _ h1 r=>
   cases r with
   | @cons a2 _ _ _ h2 r=>
    cases r;have hx:=hl x (by simp);have hy:=hl y (by simp);refine#[_,Z,op,_,_,_,Z,Z,aO.of ho,b8 (j:=0) rfl,?_];refine#[_,Z,Z,_,Z,cH ?_];refine#[_,Z,Z,_,Z,cH ?_];refine#[_,Z,op,_,_,_,Z,Z,aO.of ho,b8 (j:=1) rfl,?_];refine#[_,Z,Z,_,Z,cF ?_];refine#[_,Z,a1,_,Z,.inl (aO.of h1),_,Z,by lia,by rw[kZ,hx];lia,λD hD=>?_];rw[kZ,cg];refine JG (λi=>.bl (x.getD i false&&y.getD i false)) (by lia) hD (λi Hc Q' hi sc q'=>?_) (λH1 s1 e1=>?_)
    ·refine uQ (b:=x.getD i false) (b':=y.getD i false) (λQ2 z2=>?_) (λ_ Q2 z2=>?_) (q' Hc (same_refl Hc))
     ·exact#[_,Z,_,Z,a1,_,_,_,Z,Z,aO.of (sc _ _ h1),uD (getD_at hi),z2]
     exact#[_,Z,_,Z,a2,_,_,_,Z,Z,aO.of (sc _ _ h2),uD (getD_at (by lia)),z2]
    refine q H1 D s1 hD ?_;rw[e1];show _=some (HO.lst (sL V.bl ((ba x.length).map _)));rw[bB];rfl
 | either=>
  obtain⟨x,y,rfl,rfl⟩:=vt hv;cases hA with
  | @cons a1 _ _ _ h1 r=>
   cases r with
   | @cons a2 _ _ _ h2 r=>
    cases r;have hx:=hl x (by simp);have hy:=hl y (by simp);refine#[_,Z,op,_,_,_,Z,Z,aO.of ho,b8 (j:=0) rfl,?_];refine#[_,Z,Z,_,Z,cH ?_];refine#[_,Z,Z,_,Z,cH ?_];refine#[_,Z,op,_,_,_,Z,Z,aO.of ho,b8 (j:=1) rfl,?_];refine#[_,Z,Z,_,Z,cH ?_];refine#[_,Z,a1,_,Z,.inl (aO.of h1),_,Z,by lia,by rw[kZ,hx];lia,λD hD=>?_];rw[kZ,cg];refine JG (λi=>.bl (x.getD i false || y.getD i false)) (by lia) hD (λi Hc Q' hi sc q'=>?_) (λH1 s1 e1=>?_)
    ·refine tq (b:=x.getD i false) (b':=y.getD i false) (λQ2 z2=>?_) (λQ2 z2=>?_) (q' Hc (same_refl Hc))
     ·exact#[_,Z,_,Z,a1,_,_,_,Z,Z,aO.of (sc _ _ h1),uD (getD_at hi),z2]
     exact#[_,Z,_,Z,a2,_,_,_,Z,Z,aO.of (sc _ _ h2),uD (getD_at (by lia)),z2]
    refine q H1 D s1 hD ?_;rw[e1];show _=some (HO.lst (sL V.bl ((ba x.length).map _)));rw[bB];rfl
inductive BH (vs:List V) (H:Hp) (Q:VK) (_:XK):Prop where
 | mk (p m a g bl:Addr) (bs:List Addr) (cR:Addr) (L:aE) (nx:Nat) (be:aU) (t:bc) (ar:bD) (_:vs=[.ref p,.ref m]) (_:gK H p (aQ ar)) (_:nJ ar) (_:(aQ ar).length<=1000) (_:On H m a g bl bs cR L nx be t) (_:ke L) (_:Mk (mask L (has L ⟨be.at_,be.side,t⟩ ar)) H Q)
def UY (fD:aK aL 1 T.eS (AE)) (uR:aK aL 2 T.kl (JJ))
  (xI:aK aL 4 T.mr (Hv)):aK aL 5 T.jg (BH):=by
 refine Y.jg.F.run qL λbx A outer s H vs Q E hr h=>?_;obtain⟨p,m,a,g,bl,bs,cR,L,nx,be,t,ar,rfl,⟨as,hp,hI⟩,hw,hl,O,hd,q⟩:=h;have FU:=WF.small O.wf;have wC:=O.wf.lZ;have hN:0 < L.w * L.h:=HF wC (by have:=O.wf.h0;lia);refine#[_,(aj (aZ 2 qL.nd (cO ao)) (aj (kJ PassesOwn.never rfl (fo (aa 0)) (My rfl (u7 (gu 3 qL.nd) (u7 (gu 4 qL.nd) Jh))) (aj (aZ 5 qL.nd (aJ Y.eS fD (hr.le rfl) aG (ae (aa 2) (ae (aa 3) ao)))) (aq (bG (Ji (aa 5)) (aq (dC (qt (aa 2) (aJ Y.kl uR (hr.le rfl) aG (ae (aa 3) (ae (aa 5) (ae (aW (aa 1)) ao))))))) (aq (dC (qt (aa 2) (aJ Y.mr xI (hr.le rfl) aG (ae (aa 3) (ae (aa 4) (ae (aa 1) ao))))))))))) (aq (aD (bU (aa 2) bL))))),?_];refine#[bK _,λfl qJ=>?_];have NV:p≠fl:=aI hp qJ;have AF:=mm (vJ L #[be.at_,be.side,t]) ar [];have mh:as.length=(aQ ar).length:=hI.length;refine#[_,Z,p,Z,#[_,aO.of (by rw[au NV];exact hp)],?_];refine jD (xs:=as.map V.ref) (λj σ Hc=>∃(st:List (List Bool)) (fs:List Addr) (z1 z2 z3:Option V),σ = [some (.ref p),some (.ref m),some (.ref fl),z1,z2,z3]/\iw (vJ L #[be.at_,be.side,t]) ((aQ ar).take j) []=some st/\Hc fl=some (.lst (fs.map V.ref))/\zC Hc fs st/\(∀b∈fs,H b=none)/\(∀l∈st,l.length=L.w * L.h)/\bo H Hc)
  #[[],[],none,none,none,Z,Z,ah,.nil,(λb hb=>by cases hb),(λl hl=>by cases hl),aT qJ _] (λi σ Hc _ e=>?_) (λi xx σ Hc UP e=>?_) (λσ Hc e=>?_)
 ·obtain⟨_,_,_,_,_,_,_,_,_,_,_,hS⟩:=e
  exact aO.of (hS _ _ hp)
 ·obtain⟨st,fs,z1,z2,z3,rfl,e1,e2,e3,e4,e5,hS⟩:=e
  obtain⟨b,it,rfl,rG,hb⟩:=FO hI UP;have fW:=hS _ _ hb;obtain⟨s1,s2,r1,r2,r3⟩:=IC (vJ L #[be.at_,be.side,t]) AF rG;rw[e1] at r1;cases r1;obtain⟨NW,v,hv,rfl⟩:=sV r2;have za:=j8 hw it (aP rG);have hi:i < (aQ ar).length:=(az.mp rG).1;have Lz:fs.length=st.length:=e3.length;have fk:st.length<=1000:=by
   have z:=yr e1;rw[bJ] at z;simp at z
   lia
  have Ue:=adB hv (λl hl=>e5 l (qE hl));refine#[b,_,Z,gN.of fW,Z,_,_,Z,_,_,Z,Z,?_];refine#[_,Z,_,Z,fl,it,fs.map V.ref,Z,e2,za,by rw[ai];lia,λo H' ho h1 h2 h3=>?_];rw[ai,Lz,<- lX] at h1;rw[ai,Lz,<- lY] at h2;have up :∀(oP:List Addr) (jX:List (List Bool)),zC Hc oP jX->(∀l∈jX,l.length=L.w * L.h)->zC H' oP jX:=by
   intro oP jX hh
   induction hh with
   | nil=>intro _;exact .nil
   | @cons b' l' _ _ z _ ih=>
    intro eP;refine .cons ?_ (ih λl hl=>eP l (by simp[hl]));have zz:Hc b'=_:=z;have cG:l'≠[]:=λzz=>by
     have:=eP l' (by simp);rw[zz] at this;simp at this
     lia
    show H' b'=_;rw[h3 b' (YN z cG e2) (aI zz ho)];exact zz
  have LA:zC H' fs st:=up fs st e3 e5;have CU:bo H H':=λb' o' hh=>by
   rw[h3 b' (aI hh qJ) (aI (hS _ _ hh) ho)];exact hS _ _ hh
  have O':=O.same CU;have P7:(!((fs.drop (st.length - arity it)).map V.ref).isEmpty)=decide (arity it≠0):=by
   have hle:((fs.drop (st.length - arity it)).map V.ref).length=arity it:=by rw[ai,dk];lia
   cases h:(fs.drop (st.length - arity it)).map V.ref with
   | nil=>rw[h] at hle;simp at hle;simp[<- hle]
   | cons a r=>rw[h] at hle;simp at hle;simp[<- hle]
  have di :∀(H2:Hp) (q2:Addr) (z1 z2 z3:Option V),bo H' H2->H' q2=none->H2 q2=some (.lst (vb v))->Nk (λ_ Hz=>∃(jX:List (List Bool)) (oP:List Addr) (UQ N3 UR:Option V),[some (.ref p),some (.ref m),some (.ref fl),z1,z2,z3]=[some (.ref p),some (.ref m),some (.ref fl),UQ,N3,UR]/\iw (vJ L ⟨be.at_,be.side,t⟩) ((aQ ar).take (i+1)) []=some jX/\Hz fl=some (.lst (oP.map V.ref))/\zC Hz oP jX/\(∀b∈oP,H b=none)/\(∀l∈jX,l.length=L.w * L.h)/\bo H Hz) (.ref fl) (.ref q2) H2:=by
   intro H2 q2 z1 z2 z3 s2 n2 g2;have UZ:=s2 _ _ h2;refine#[fl,_,Z,UZ,?_,_,fs.take (st.length - arity it)++[q2],z1,z2,z3,Z,r3,by rw[ah,br];rfl,?_,?_,?_,λb' o' hh=>?_]
   ·rw[ai,bJ]
    show _ < 2 ^ 24
    lia
   ·have Es :∀(oP:List Addr) (jX:List (List Bool)),zC H2 oP jX->(∀l∈jX,l.length=L.w * L.h)->zC (aX H2 fl (.lst ((fs.take (st.length - arity it)).map V.ref++[.ref q2]))) oP jX:=by
     intro oP jX hh
     induction hh with
     | nil=>intro _;exact .nil
     | @cons b' l' _ _ z _ ih=>
      intro eP;refine .cons ?_ (ih λl hl=>eP l (by simp[hl]));have cG:l'≠[]:=λzz=>by
       have:=eP l' (by simp);rw[zz] at this;simp at this
       lia
      show aX _ _ _ b'=_;rw[au (YN z cG UZ)];exact z
    have t3:zC H2 (fs.take (st.length - arity it)) (st.take (st.length - arity it)):=Paired.imp (λb' l' z=>s2 _ _ z) (Paired.take _ LA);exact Es _ _ (Paired.app t3 (.cons g2 .nil)) (λl hl=>by
     rcases eY.mp hl with h | h
     ·exact e5 l (jQ h)
     rw[fu.mp h];exact Ue)
   ·intro b' fW
    rcases eY.mp fW with h | h
    ·exact e4 b' (jQ h)
    rw[fu.mp h];exact CU.free n2
   ·intro l hl
    rcases eY.mp hl with h | h
    ·exact e5 l (jQ h)
    rw[fu.mp h];exact Ue
   rw[au (aI hh qJ)];exact s2 _ _ (CU _ _ hh)
  obtain⟨nX,hm⟩:=O'.am.am;refine#[_,Z,_,.inl #[_,aO.of h1,Z],bE (λc=>?_) (λc=>?_)]
  ·rw[P7] at c
   have cG:arity it≠0:=of_decide_eq_true c;refine#[_,Z,.inl #[Z,_,aO.of h2],_,Z,_,Z,_,Z,m,_,nX,_,_,Z,hm,Y.bZ.cl,Y.ft,Z,o,a,g,bl,bs,fs.drop (st.length - arity it),L,nx,#[be.at_,be.side,t],it,st.drop (st.length - arity it),v,Z,O'.lv,O.wf,h1,Paired.drop _ LA,(λl hl=>e5 l (qE hl)),cG,hv,λH2 q2 s2 n2 g2=>?_];exact di H2 q2 _ _ _ s2 n2 g2
  rw[P7] at c;cases it with
  | sim k n=>
   obtain⟨_,rfl⟩:=CV hv;refine#[_,Z,.inl #[Z,_,aO.of h2],_,Z,_,Z,_,Z,m,a,g,bl,bs,cR,L,nx,be,t,k,n,Z,O',hd,za.1,za.2.1,za.2.2,λH2 q2 s2 n2 g2=>?_];exact di H2 q2 _ _ _ s2 n2 g2
  | _=>exact absurd (decide_eq_true (by simp[arity])) c
 obtain⟨st,fs,z1,z2,z3,rfl,e1,e2,e3,e4,e5,hS⟩:=e;rw[ai,mh,cq,AF,Dd wC] at e1;cases e1;cases e3 with
 | @cons b _ _ _ h1 r=>
  cases r;exact#[_,Z,fl,_,_,_,Z,Z,aO.of e2,b8 (j:=0) rfl,q Hc b hS (e4 b (by simp)) h1]
theorem Paired.mk {α β : Type} {F:α->β->Prop} :∀{l:List α} {x:List β},l.length=x.length->(∀(i:Nat) (a:α) (b:β),l[i]?=some a->x[i]?=some b->F a b)->Paired F l x
 | [],[],_,_=>.nil
 | a::l,b::x,h,k=>.cons (k 0 a b rfl rfl) (Paired.mk (by simpa using h) λi a' b' h1 h2=>k (i+1) a' b' (by simpa using h1) (by simpa using h2))
 | [],_::_,h,_=>by simp at h
 | _::_,[],h,_=>by simp at h
section
def Out (a g:Addr) (bs:List Addr) (H H':Hp):Prop:=∀b o,b≠a->b≠g->b∉bs->H b=some o->H' b=some o
theorem Out.refl (a g:Addr) (bs:List Addr) (H:Hp):Out a g bs H H:=λ_ _ _ _ _ h=>h
theorem Out.trans (x:Out a g bs H H1) (y:Out a g bs H1 H2):Out a g bs H H2:=λb o h1 h2 h3 h=>y b o h1 h2 h3 (x b o h1 h2 h3 h)
theorem Out.same (x:bo H H1):Out a g bs H H1:=λb o _ _ _ h=>x b o h
theorem Out.at (h:b∈bs):Out a g bs H (aX H b o):=λc u _ _ h3 z=>by
 rw[au (show c≠b from λe=>h3 (by rw[e];exact h))];exact z
variable {H:Hp} {a g bl:Addr} {bs:List Addr} {L:aE} {nx:Nat}
theorem dh.inj (h:dh H a g bl bs L nx) (nd:(L.beings.map (·.number)).Nodup) {i j:Nat} {b:Addr} (hi:bs[i]?=some b) (hj:bs[j]?=some b):i=j:=by
 obtain⟨s1,e1,oS,h1⟩:=Paired.get h.be hi;obtain⟨s2,e2,qQ,h2⟩:=Paired.get h.be hj;rw[h1] at h2;have hn:s1.number=s2.number:=by
  have:=congrArg (λz=>z.lookup ("number" : Str)) (HO.ins.inj (bN.inj h2)).2.2;have z:V.int (s1.number:Nat)=V.int (s2.number:Nat):=bN.inj this;have:=V.int.inj z
  lia
 obtain⟨rR,YL⟩:=az.mp e1;obtain⟨KI,e2'⟩:=az.mp e2;have a1:(L.beings.map (·.number))[i]?=some s1.number:=by rw[aA,e1];rfl
 have a2:(L.beings.map (·.number))[j]?=some s1.number:=by rw[aA,e2,hn];rfl
 obtain⟨b1,c1⟩:=az.mp a1;obtain⟨b2,c2⟩:=az.mp a2;exact(mQ nd).mp (c1.trans c2.symm)
def dh.setB (h:dh H a g bl bs L nx) (nd:(L.beings.map (·.number)).Nodup) {i:Nat} {b dx:Addr} {s s':aU} (hi:bs[i]?=some b) (hs:L.beings[i]?=some s) (hb:H b=some (.ins T.aR.C dx (wA s))):dh (aX H b (.ins T.aR.C dx (wA s'))) a g bl bs (fY L i λ_=>s') nx:=by
 obtain⟨ez,ha⟩:=h.lv;refine#[#[ez,?_],?_,?_,?_]
 ·rw[au (cN ha hb (λq=>absurd (congrArg dA (HO.ins.inj q).2.2) (by simp[gc,wA,jS])))];exact ha
 ·rw[au (cN h.gr hb (by intro q;cases q))];exact h.gr
 ·rw[au (cN h.bl hb (by intro q;cases q))];exact h.bl
 refine Paired.mk ?_ λj c t hj ht=>?_
 ·rw[h.be.length];exact(List.length_modify _ _ _).symm
 rw[uG] at ht;by_cases e:i=j
 ·subst e
  rw[if_pos rfl,hs] at ht;cases ht;rw[hi] at hj;cases hj;exact#[dx,ah]
 rw[if_neg e] at ht;obtain⟨t',e1,i0,h1⟩:=Paired.get h.be hj;rw[e1] at ht;cases ht;refine#[i0,?_];rw[au (show c≠b from λz=>e (h.inj nd hi (by rw[<- z];exact hj)))];exact h1
def sy (d:Int) (b:aU):aU:=#[b.number,b.at_,b.life+d,b.most,b.mana,b.side]
def QV (hs:L.beings[i]?=some s):fY L i f=fY L i λ_=>f s:=by
 unfold fY;congr 1;apply fi;intro k;rw[qU,qU];by_cases e:i=k
 ·subst e
  rw[if_pos rfl,if_pos rfl,hs];rfl
 rw[if_neg e,if_neg e]
def Co (bs ts:List Addr) (is:List Nat):Prop:=ts.map some=is.map λi=>bs[i]?
def Co.get {bs ts:List Addr} {is:List Nat} (h:Co bs ts is) {j:Nat} {b:Addr} (hj:ts[j]?=some b) :∃i,is[j]?=some i/\bs[i]?=some b:=by
 have z:(ts.map some)[j]?=(is.map λi=>bs[i]?)[j]?:=by rw[show ts.map some=_ from h]
 rw[aA,aA,hj] at z;cases e:is[j]? with
 | none=>rw[e] at z;cases z
 | some i=>rw[e] at z;exact#[i,Z,(bN.inj z).symm]
def Co.len (h:Co bs ts is):ts.length=is.length:=by
 have:=congrArg dA (show ts.map some=_ from h);simpa using this
def Od {ts:List Addr} {j:Nat} {x:V} (h:(ts.map V.ref)[j]?=some x) :∃b,x=.ref b/\ts[j]?=some b:=by
 rw[aA] at h;cases e:ts[j]? with
 | none=>rw[e] at h;cases h
 | some b=>rw[e] at h;cases h;exact#[b,Z,Z]
def Hw (H:Hp) (a g bl:Addr) (bs:List Addr) (L':aE) (nx:Nat) (Q:VK):Prop:=∀H',Out a g bs H H'->dh H' a g bl bs L' nx->Q .cj H'
def dh.AM (h:dh H a g bl bs L nx) {tl:Addr} {ts:List Addr} (ht:H tl=some (.lst (ts.map V.ref))) (hg:L.ground≠[]):tl≠a/\tl≠g/\tl∉bs:=by
 obtain⟨ez,ha⟩:=h.lv;refine#[cN ht ha (by intro q;cases q),λe=>?_,λhm=>?_]
 ·have N6:=h.gr
  rw[e,N6] at ht;have:=HO.lst.inj (bN.inj ht);unfold vi at this;cases hl:L.ground with
  | nil=>exact hg hl
  | cons x r=>
   rw[hl] at this;cases ts with
   | nil=>cases this
   | cons y q=>cases this
 obtain⟨i,hi,e⟩:=g9 hm;obtain⟨s,_,dx,z⟩:=Paired.get h.be (show bs[i]?=some tl by rw[aw hi,e]);rw[ht] at z;cases z
inductive Oe (vs:List V) (H:Hp) (Q:VK) (_:XK):Prop where
 | mk (tl a g bl:Addr) (bs ts:List Addr) (is:List Nat) (L:aE) (nx:Nat) (d:Int) (_:vs=[.ref tl,.int d]) (_:dh H a g bl bs L nx) (_:Sp.WF L) (_:H tl=some (.lst (ts.map V.ref))) (_:Co bs ts is) (_:Hw H a g bl bs (is.foldl (λL i=>fY L i (sy d)) L) nx Q)
theorem JK (d:Int) :∀(is:List Nat) (L:aE),(is.foldl (λL i=>fY L i (sy d)) L).beings.map (·.number)=L.beings.map (·.number)/\(is.foldl (λL i=>fY L i (sy d)) L).beings.length=L.beings.length
 | [],L=>#[Z,Z]
 | i::r,L=>by
  have ih:=JK d r (fY L i (sy d));rw[fT];exact#[ih.1.trans (vG λ_ _=>rfl),ih.2.trans (List.length_modify _ _ _)]
theorem WF.LI (h:Sp.WF L):L.ground≠[]:=λz=>by
 have:=h.gl;rw[z] at this;have h1:=HF h.lZ (show 0 < L.h by have:=h.h0;lia);simp at this
 lia
def W3:aK aL 1 T.km (Oe):=by
 refine Y.km.F.run Bx λbx A outer s H vs Q E hr h=>?_;obtain⟨tl,a,g,bl,bs,ts,is,L,nx,d,rfl,hL,hw,ht,hI,q⟩:=h;refine#[_,(aq (kJ PassesOwn.never rfl (fo (aa 0)) (gu 2 Bx.nd) (aq (CC (aa 2) (aa 1))))),?_];obtain⟨o1,o2,o3⟩:=hL.AM ht (WF.LI hw);refine#[_,Z,tl,Z,#[_,aO.of ht],?_];refine jD (xs:=ts.map V.ref) (λj σ Hc=>(∃z,σ = [some (.ref tl),some (.int d),z])/\Out a g bs H Hc/\dh Hc a g bl bs ((is.take j).foldl (λL i=>fY L i (sy d)) L) nx) #[#[none,Z],Out.refl a g bs H,hL] (λi σ Hc _ e=>aO.of (e.2.1 _ _ o1 o2 o3 ht)) (λj x σ Hc hx e=>?_) (λσ Hc e=>?_)
 ·obtain⟨⟨z,rfl⟩,eO,eL⟩:=e
  obtain⟨b,rfl,hb⟩:=Od hx;obtain⟨i,hi,FX⟩:=hI.get hb;obtain⟨s,hs,dx,hB⟩:=Paired.get eL.be FX;have nd:(((is.take j).foldl (λL i=>fY L i (sy d)) L).beings.map (·.number)).Nodup:=by rw[(JK d _ L).1];exact hw.nd
  refine#[_,Z,b,_,dx,_,_,Z,hB,Y.aR.cl,Y.gP,Z,_,Z,_,_,Z,Z,dx,_,hB,by simp[wA,jS],#[_,Z],eO.trans (Out.at (aP FX)),?_];rw[bW,hi,gZ];show dh _ a g bl bs (fY _ i (sy d)) nx;rw[QV hs];exact eL.setB (s':=sy d s) nd FX hs hB
 obtain⟨_,eO,eL⟩:=e;rw[ai,hI.len,cq] at eL;exact q Hc eO eL
end
def uJ:(gy L c).isNone=true↔∀(k:Nat) (b:aU),L.beings[k]?=some b->b.at_≠c:=by
 unfold gy;rw[Option.isNone_iff_eq_none,yz];constructor
 ·intro h k b hb e
  have:=h b (aP hb);simp[e] at this
 intro h b hb;obtain⟨k,hk,e⟩:=g9 hb;have:=h k b (by rw[aw hk,e]);simpa using this
def W4 {L:aE} {i:Nat} {s s':aU} (hs:L.beings[i]?=some s) {c:bc} (h1:s.at_≠c) (h2:s'.at_≠c):fw (fY L i λ_=>s') c=fw L c:=by
 unfold fw;have e:(gy (fY L i λ_=>s') c).isNone=(gy L c).isNone:=by
  apply fX;rw[uJ,uJ];constructor
  ·intro h k b hb
   by_cases e:i=k
   ·subst e
    rw[hs] at hb;cases hb;exact h1
   exact h k b (by rw[uG,if_neg e];exact hb)
  intro h k b hb;rw[uG] at hb;by_cases e:i=k
  ·subst e
   rw[if_pos rfl,hs] at hb;cases hb;exact h2
  rw[if_neg e] at hb;exact h k b hb
 rw[e];rfl
def Of {L:aE} {i:Nat} {s:aU} (hs:L.beings[i]?=some s):fw L s.at_=false:=by
 unfold fw;have:(gy L s.at_).isNone=false:=by
  rw[cD];intro z;exact uJ.mp z i s hs rfl
 rw[this,xR,xR]
def LJ {L:aE} {i:Nat} {s:aU} (hs:L.beings[i]?=some s):(fY L i λ_=>s)=L:=by
 unfold fY;have:L.beings.modify i (λ_=>s)=L.beings:=by
  apply fi;intro k;rw[qU];by_cases e:i=k
  ·subst e
   rw[if_pos rfl,hs];rfl
  rw[if_neg e]
 rw[this]
def U0 {L:aE} {i:Nat} {s s':aU}:fY (fY L i λ_=>s) i (λ_=>s')=fY L i λ_=>s':=by
 unfold fY;congr 1;apply fi;intro k;rw[qU,qU,qU];by_cases e:i=k
 ·rw[if_pos e,if_pos e,if_pos e]
  cases L.beings[k]? <;> rfl
 rw[if_neg e,if_neg e,if_neg e]
inductive QX (vs:List V) (H:Hp) (Q:VK) (_:XK):Prop where
 | mk (x:Int) (_:vs=[.int x]) (_:Q (.int (ji x)) H)
def aak:aK aL 1 T.Au (QX):=by
 refine Y.Au.F.run ZU λbx A outer s H vs Q E hr h=>?_;obtain⟨x,rfl,q⟩:=h;refine#[_,(aj (bG (Kh (aa 0) bL) (aq (aD bL)) bp) (aj (bG (HQ (aa 0) bL) (aq (aD (Bv bL))) bp) (aq (aD bL)))),?_];unfold ji at q;refine#[_,Z,_,_,Z,Z,_,Z,bE (λc=>?_) (λc=>?_)]
 ·have c':=of_decide_eq_true c
  rw[if_neg (by lia),if_neg (by lia)] at q;exact q
 have c':¬ (0:Int) < x:=λz=>c (decide_eq_true z);refine#[_,Z,_,_,Z,Z,_,Z,bE (λc=>?_) (λc=>?_)]
 ·have c2:=of_decide_eq_true c
  rw[if_pos c2] at q;exact#[_,Z,q]
 have c2:¬ x < 0:=λz=>c (decide_eq_true z);rw[if_neg c2,if_pos (by lia)] at q;exact q
inductive Og (vs:List V) (H:Hp) (Q:VK) (_:XK):Prop where
 | mk (a g bl b:Addr) (bs:List Addr) (L:aE) (nx i n:Nat) (s:aU) (dx dy:Int) (_:vs=[.ref a,.ref b,.int dx,.int dy,.int (n:Nat)]) (_:dh H a g bl bs L nx) (_:Sp.WF L) (_:bs[i]?=some b) (_:L.beings[i]?=some s) (_:Hw H a g bl bs (if dx=0/\dy=0 then L else fY L i λ_=>jR L n s dx dy) nx Q)
def W5 (ia:aK aL 3 T.eU (Gy)):aK aL 4 T.zJ (Og):=by
 refine Y.zJ.F.run HV λbx A outer s H vs Q E hr h=>?_;obtain⟨a,g,bl,b,bs,L,nx,i,n,s0,dx,dy,rfl,hL,hw,hb,hs,q⟩:=h;refine#[_,(aj (aZ 5 HV.nd bL) (aq (u9 PassesOwn.never (qK (w_and (HQ (aa 5) (aa 4)) (vR (gD (eQ Y.eU Y.aM.cl ia (hr.le rfl) aG (aa 0) (ae (iX (aW (aa 1)) (aa 2)) (ae (iX (aW (aa 1)) (aa 3)) ao))))))) (aj (CC (aa 1) (aa 2)) (aj (CC (aa 1) (aa 3)) (aq (Fb 5 HV.nd bL))))))),?_];refine⟨λm σ Hc=>∃(j:Nat) (s:aU),σ = [some (.ref a),some (.ref b),some (.int dx),some (.int dy),some (.int (n:Nat)),some (.int (j:Nat))]/\j<=n/\m=n - j/\Out a g bs H Hc/\dh Hc a g bl bs (fY L i λ_=>s) nx/\bV L s.at_=true/\s.at_=(s0.at_.1+j * dx,s0.at_.2+j * dy)/\s.number=s0.number/\jR L (n - j) s dx dy=jR L n s0 dx dy/\((dx=0/\dy=0)->s=s0),
  #[_,0,s0,Z,bK _,Z,Out.refl a g bs H,by rw[LJ hs];exact hL,hw.ins s0 (aP hs),by simp,Z,Z,λ_=>rfl],?_⟩
 rintro m σ Hc ⟨j,s,rfl,hj,rfl,eO,eL,il,Qs,wD,FL,hz⟩;have near:j0 L (fY L i λ_=>s):=EK hs wD (λ_=>il);have hw':Sp.WF (fY L i λ_=>s):=near.wf hw;have hsj:(fY L i λ_=>s).beings[i]?=some s:=by rw[uG,if_pos rfl,hs];rfl
 obtain⟨sx,hsx,fO,hB⟩:=Paired.get eL.be hb;rw[hsj] at hsx;cases hsx;obtain⟨ez,ha⟩:=eL.lv;have stop:(n - j=0\/fw L (s.at_.1+dx,s.at_.2+dy)=false)->Q .cj Hc:=λh=>by
  refine q Hc eO ?_;by_cases hd:dx=0/\dy=0
  ·rw[if_pos hd]
   rw[hz hd,LJ hs] at eL;exact eL
  rw[if_neg hd,<- FL];have:jR L (n - j) s dx dy=s:=by
   cases e:n - j with
   | zero=>rfl
   | succ k=>
    rcases h with h | h
    ·lia
    unfold jR;dsimp only;rw[h,if_neg (by simp)]
  rw[this];exact eL
 refine#[_,Z,_,Z,_,_,Z,Z,_,Z,bE (λc=>?_) (λc=>?_)]
 ·have c':=of_decide_eq_true c
  have hjn:j < n:=by lia
  refine#[_,Z,a,ez,_,Z,ha,uO,_,Z,b,_,fO,_,_,Z,hB,Y.aR.cl,Y.fq,Z,_,Z,_,_,Z,Z,_,Z,b,_,fO,_,_,Z,hB,Y.aR.cl,Y.fS,Z,_,Z,_,_,Z,Z,a,g,bl,bs,_,nx,_,_,Z,eL,hw',_,Z,?_];by_cases hd:dx=0/\dy=0
  ·have e0:((s.at_.1+dx,s.at_.2+dy):bc)=s.at_:=by rw[hd.1,hd.2];simp
   rw[e0,Of hsj];refine cH (stop (.inr ?_));rw[e0,hz hd];exact Of hs
  have h1:s0.at_≠(s.at_.1+dx,s.at_.2+dy):=λe=>by
   rw[Qs] at e;have e1:=congrArg Prod.fst e;have e2:=congrArg Prod.snd e;dsimp only at e1 e2;apply hd;have m1:((j:Int)+1) * dx=0:=by rw[Cu,uq];lia
   have m2:((j:Int)+1) * dy=0:=by rw[Cu,uq];lia
   have j1:(j:Int)+1≠0:=by lia
   exact#[(Int.mul_eq_zero.mp m1).resolve_left j1,(Int.mul_eq_zero.mp m2).resolve_left j1]
  have h2:s.at_≠(s.at_.1+dx,s.at_.2+dy):=λe=>by
   have e1:=congrArg Prod.fst e;have e2:=congrArg Prod.snd e;dsimp only at e1 e2;exact hd #[by lia,by lia]
  rw[W4 hs h1 h2];refine bE (λcf=>?_) (λcf=>?_)
  ·refine#[λσ' Uu=>∃m',m' < n - j/\_,λ_ _ z=>z,?_]
   refine#[_,Z,b,_,fO,_,_,Z,hB,Y.aR.cl,Y.fq,Z,_,Z,_,_,Z,Z,fO,_,hB,by simp[wA,jS],?_];refine#[_,Z,b,_,fO,_,_,Z,ah,Y.aR.cl,Y.fS,Z,_,Z,_,_,Z,Z,fO,_,ah,by show 7 < 1000;decide,?_];rw[ij];refine#[_,Z,_,_,Z,Z,n - (j+1),by lia,j+1,mE s (s.at_.1+dx,s.at_.2+dy),Z,hjn,Z,eO.trans (Out.at (aP hb)),?_,BW cf,?_,wD,?_,λz=>absurd z hd]
   ·have z:=eL.setB (s':=mE s (s.at_.1+dx,s.at_.2+dy)) hw'.nd hb hsj hB
    rw[U0] at z;exact z
   ·show((s.at_.1+dx,s.at_.2+dy):bc)=_
    rw[Qs]
    push_cast
    rw[Cu,Cu,uq,uq,Int.add_assoc,Int.add_assoc]
   rw[<- FL];have e:n - j=(n - (j+1))+1:=by lia
   rw[e]
   conv=>rhs;unfold jR
   dsimp only;rw[cf,if_pos rfl]
  exact stop (.inr (cD.mpr cf))
 have c':¬ ((j:Nat):Int) < (n:Nat):=λz=>c (decide_eq_true z);exact cH (stop (.inl (by lia)))
def Po (hi:L.beings[i]?=some b) (h:b.at_=fr):hU fr away n L i=L:=by
 unfold hU;rw[hi];show sQ L fr away n b=L;unfold sQ;dsimp only;rw[if_pos];rw[h];constructor <;> simp[ji]
def Oh (nd:(L.beings.map (·.number)).Nodup) (cG:i≠k):(hU fr away n L i).beings[k]?=L.beings[k]?:=by
 unfold hU;cases hi:L.beings[i]? with
 | none=>rfl
 | some b=>
  obtain⟨b',_,e⟩:=IJ (fr:=fr) (away:=away) (n:=n) nd hi;dsimp only;rw[e,uG,if_neg cG]
def U1 (nd:(L.beings.map (·.number)).Nodup) (hi:L.beings[i]?=some b) (hw:(wy=1/\away=true)\/(wy = -1/\away=false)) :
  hU fr away n L i=if wy * ji (b.at_.1 - fr.1)=0/\wy * ji (b.at_.2 - fr.2)=0 then L else fY L i λ_=>jR L n b (wy * ji (b.at_.1 - fr.1)) (wy * ji (b.at_.2 - fr.2)):=by
 unfold hU;rw[hi];show sQ L fr away n b=_;unfold sQ;dsimp only;rcases hw with⟨rfl,rfl⟩ | ⟨rfl,rfl⟩
 ·rw[uq,uq]
  simp only[if_true];split
  ·rfl
  exact qk nd hi (kQ _ _ _ _ _)
 rw[Int.neg_one_mul,Int.neg_one_mul];simp only[Bool.false_eq_true,if_false];by_cases h:ji (b.at_.1 - fr.1)=0/\ji (b.at_.2 - fr.2)=0
 ·rw[if_pos h,if_pos (by lia)]
 rw[if_neg h,if_neg (by lia)];exact qk nd hi (kQ _ _ _ _ _)
def dh.Kz {H:Hp} {a g bl:Addr} {bs:List Addr} {L:aE} {nx:Nat} (h:dh H a g bl bs L nx) {m dx:Addr} {v0 v1 v2 v3:V} (hm:H m=some (.ins T.bZ.C dx (DJ v0 v1 v2 v3))):m≠a/\m≠g/\m∉bs:=by
 obtain⟨ez,ha⟩:=h.lv;refine#[cN hm ha (λq=>absurd (congrArg dA (HO.ins.inj q).2.2) (by simp[gc,DJ])),cN hm h.gr (by intro q;cases q),λDt=>?_];obtain⟨i,hi,e⟩:=g9 Dt;obtain⟨s,_,qH,z⟩:=Paired.get h.be (show bs[i]?=some m by rw[aw hi,e]);rw[hm] at z;exact absurd (congrArg dA (HO.ins.inj (bN.inj z)).2.2) (by simp[DJ,wA,jS])
inductive QY (vs:List V) (H:Hp) (Q:VK) (_:XK):Prop where
 | mk (m tl a g bl cR:Addr) (bs ts:List Addr) (is:List Nat) (L:aE) (nx n ic:Nat) (be:aU) (t:bc) (wy:Int) (away:Bool) (_:vs=[.ref m,.ref tl,.int (n:Nat),.int wy]) (_:((wy=1/\away=true)\/(wy = -1/\away=false))) (_:Cn H m a cR be t) (_:dh H a g bl bs L nx) (_:Sp.WF L) (_:bs[ic]?=some cR) (_:L.beings[ic]?=some be) (_:H tl=some (.lst (ts.map V.ref))) (_:Co bs ts is) (_:Hw H a g bl bs (is.foldl (hU be.at_ away n) L) nx Q)
def QZ (x:Int):-1<=ji x/\ji x<=1:=by
 unfold ji;split
 ·lia
 split <;> lia
def aal (JL:aK aL 1 T.Au (QX)) (KA:aK aL 4 T.zJ (Og)) :
  aK aL 5 T.lQ (QY):=by
 refine Y.lQ.F.run sY λbx A outer s H vs Q E hr h=>?_;obtain⟨m,tl,a,g,bl,cR,bs,ts,is,L,nx,n,ic,be,t,wy,away,rfl,hwy,hA,hL,hw,zc,oN,ht,hI,q⟩:=h;refine#[_,(aq (kJ PassesOwn.never rfl (fo (aa 1)) (gu 4 sY.nd) (aj (aZ 5 sY.nd (mT (aa 3) (aJ Y.Au JL (hr.le rfl) aG (ae (kI (aW (aa 4)) (aW (aW (aa 0)))) ao)))) (aj (aZ 6 sY.nd (mT (aa 3) (aJ Y.Au JL (hr.le rfl) aG (ae (kI (aW (aa 4)) (aW (aW (aa 0)))) ao)))) (aq (dC (aJ Y.zJ KA (hr.le rfl) aG (ae (aW (aa 0)) (ae (aa 4) (ae (aa 5) (ae (aa 6) (ae (aa 2) ao)))))))))))),?_];obtain⟨nX,hm⟩:=hA.am;obtain⟨o1,o2,o3⟩:=hL.AM ht (WF.LI hw);obtain⟨p1,p2,p3⟩:=hL.Kz hm;refine#[_,Z,tl,Z,#[_,aO.of ht],?_];refine jD (xs:=ts.map V.ref) (λj σ Hc=>(∃z1 z2 z3,σ = [some (.ref m),some (.ref tl),some (.int (n:Nat)),some (.int wy),z1,z2,z3])/\Out a g bs H Hc/\dh Hc a g bl bs ((is.take j).foldl (hU be.at_ away n) L) nx/\((is.take j).foldl (hU be.at_ away n) L).beings[ic]?=some be) #[#[none,none,none,Z],Out.refl a g bs H,hL,oN] (λi σ Hc _ e=>aO.of (e.2.1 _ _ o1 o2 o3 ht)) (λj x σ Hc hx e=>?_) (λσ Hc e=>?_)
 ·obtain⟨⟨z1,z2,z3,rfl⟩,eO,eL,U2⟩:=e
  obtain⟨b,rfl,hb⟩:=Od hx;obtain⟨i,hi,FX⟩:=hI.get hb;obtain⟨s,hs,dx,hB⟩:=Paired.get eL.be FX;obtain⟨sc,PZ,nW,hC⟩:=Paired.get eL.be zc;rw[U2] at PZ;cases PZ;have near:=zl (fr:=be.at_) (away:=away) (n:=n) (is.take j) hw.nd;have FY:=near.wf hw;have Ew:=eO _ _ p1 p2 p3 hm;have s1:=QZ (s.at_.1 - be.at_.1);have s2:=QZ (s.at_.2 - be.at_.2);have hwb:-1<=wy/\wy<=1:=by lia
  refine#[_,Z,_,Z,b,_,dx,_,_,Z,hB,Y.aR.cl,Y.fq,Z,_,Z,m,_,nX,_,_,Z,Ew,Y.bZ.cl,Y.eJ,Z,cR,_,nW,_,_,Z,hC,Y.aR.cl,Y.fq,Z,_,_,Z,Z,_,Z,_,_,Z,Z,.inl (by lia),?_];refine#[_,Z,_,Z,b,_,dx,_,_,Z,hB,Y.aR.cl,Y.fS,Z,_,Z,m,_,nX,_,_,Z,Ew,Y.bZ.cl,Y.eJ,Z,cR,_,nW,_,_,Z,hC,Y.aR.cl,Y.fS,Z,_,_,Z,Z,_,Z,_,_,Z,Z,.inl (by lia),?_];refine#[_,Z,m,_,nX,_,_,Z,Ew,Y.bZ.cl,Y.ft,Z,_,Z,_,Z,_,Z,_,Z,a,g,bl,b,bs,_,nx,i,n,s,_,_,Z,eL,FY,FX,hs,λH' oO oL=>#[#[_,_,_,Z],eO.trans oO,?_,?_]]
  ·rw[bW,hi,gZ]
   show dh H' a g bl bs (hU be.at_ away n _ i) nx;rw[U1 FY.nd hs hwy];exact oL
  rw[bW,hi,gZ];show(hU be.at_ away n _ i).beings[ic]?=some be;by_cases e:i=ic
  ·subst e
   rw[U2] at hs;cases hs;rw[Po U2 rfl];exact U2
  rw[Oh FY.nd e];exact U2
 obtain⟨_,eO,eL,_⟩:=e;rw[ai,hI.len,cq] at eL;exact q Hc eO eL
def Oi (h:i < 6):iQ i = "heal"↔i=1:=by
 match i,h with
 | 0,_ | 1,_ | 2,_ | 3,_ | 4,_ | 5,_=>simp only[iQ,eA,CT];decide
 | j+6,h=>lia
def Ol (h:i < 6):iQ i = "push"↔i=2:=by
 match i,h with
 | 0,_ | 1,_ | 2,_ | 3,_ | 4,_ | 5,_=>simp only[iQ,eA,CT];decide
 | j+6,h=>lia
def Om (L:aE) (p:bc->Bool) (fr:bc) (act n:Nat):aE:=
 if act=0 then(places (λb=>p b.at_) L.beings).foldl (λL i=>fY L i (sy (-((n:Nat):Int)))) L
 else if act=1 then(places (λb=>p b.at_) L.beings).foldl (λL i=>fY L i (sy ((n:Nat):Int))) L
 else(places (λb=>p b.at_) L.beings).foldl (hU fr (act == 2) n) L
inductive Oo (vs:List V) (H:Hp) (Q:VK) (_:XK):Prop where
 | mk (m pc sa a g bl cR:Addr) (bs:List Addr) (L:aE) (nx ic:Nat) (be:aU) (t:bc) (p:bc->Bool) (st:cC) (_:vs=[.ref m,.ref pc,.ref sa]) (_:Cn H m a cR be t) (_:dh H a g bl bs L nx) (_:Sp.WF L) (_:bs[ic]?=some cR) (_:L.beings[ic]?=some be) (_:H pc=some (.lst (vb (mask L p)))) (_:du H sa st) (_:g7 st) (_:st.act<=3) (_:Hw H a g bl bs (Om L p be.at_ st.act st.n) nx Q)
theorem Hw.on (h:Hw H a g bl bs L' nx Q) (s:bo H H1):Hw H1 a g bl bs L' nx Q:=λH' o l=>h H' ((Out.same s).trans o) l
def W6 (fG:aK aL 1 T.eG (xG)) (tx:aK aL 1 T.km (Oe))
  (uE:aK aL 5 T.lQ (QY)):aK aL 6 T.mw (Oo):=by
 refine Y.mw.F.run rH λbx A outer s H vs Q E hr h=>?_;obtain⟨m,pc,sa,a,g,bl,cR,bs,L,nx,ic,be,t,p,st,rfl,hA,hL,hw,zc,oN,Oq,Eu,fk,amJ,q⟩:=h;refine#[_,(aj (aZ 3 rH.nd (aW (aa 0))) (aj (CD 4 [("being",5)] rfl rH.nd (fo (aW (aa 3))) (dJ rfl) (λ_ _ _ _ _=>(gu 5 rH.nd)) (λ_ _ _ _ _=>(E9 (gD (bU (aa 1) (eQ Y.eG Y.aM.cl fG (hr.le rfl) aG (aa 3) (ae (aW (aa 5)) (ae (aW (aa 5)) ao))))))) (λ_ _ _ _ _=>(aa 5))) (aq (bG (dg (aW (aa 2)) dB) (aq (dC (aJ Y.km tx (hr.le rfl) aG (ae (aa 4) (ae (Bv (aW (aa 2))) ao))))) (aq (bG (dg (aW (aa 2)) dB) (aq (dC (aJ Y.km tx (hr.le rfl) aG (ae (aa 4) (ae (aW (aa 2)) ao))))) (aq (bG (dg (aW (aa 2)) dB) (aq (dC (aJ Y.lQ uE (hr.le rfl) aG (ae (aa 0) (ae (aa 4) (ae (aW (aa 2)) (ae bL ao))))))) (aq (dC (aJ Y.lQ uE (hr.le rfl) aG (ae (aa 0) (ae (aa 4) (ae (aW (aa 2)) (ae (Bv bL) ao))))))))))))))),?_];obtain⟨nX,hm⟩:=hA.am;obtain⟨ez,ha⟩:=hL.lv;have eP:bs.length=L.beings.length:=hL.be.length;have h8:=hw.n8;refine#[_,Z,m,_,nX,_,_,Z,hm,Y.bZ.cl,Y.ft,Z,?_];refine#[_,Z,a,_,ez,_,_,Z,ha,Y.aM.cl,Y.dE,Z,bl,Z,#[_,aO.of hL.bl],λD hD=>?_];refine qX (xs:=bs.map V.ref) (λi H'=>bo H H'/\∃ts,H' D=some (.lst (ts.map V.ref))/\Co bs ts ((ba i).filter λi=>(L.beings[i]?.map λb=>p b.at_).getD false)) #[aT hD _,[],ah,Z] (λi H' _ e=>aO.of (e.1 _ _ hL.bl)) (λi x H' hx e=>?_) (λH1 e=>?_)
 ·obtain⟨sc,ts,eD,eI⟩:=e
  obtain⟨b,s,fO,rfl,hb,hs,hB⟩:=wB (hL.be.same sc) hx;have Q0:=hL.same sc;obtain⟨FW,QU⟩:=Q0.lv;have il:=hw.ins s (aP hs);have hi:i < bs.length:=(az.mp hb).1;refine#[Z,?_];refine#[_,Z,_,Z,a,FW,_,Z,QU,qO,_,Z,b,_,fO,_,_,Z,hB,Y.aR.cl,Y.fq,Z,_,Z,b,_,fO,_,_,Z,hB,Y.aR.cl,Y.fS,Z,a,g,bl,bs,L,nx,_,_,Z,Q0,hw.w1,pc,_,_,.bl (p s.at_),Z,Z,aO.of (sc _ _ Oq),?_,_,Z,?_]
  ·rw[show s.at_.2 * ((L.w:Nat):Int)+s.at_.1=((gz L s.at_:Nat):Int) from(om il).2.symm]
   have z:=uD (uZ (L:=L) (p:=p) (EI il));rw[(om il).1] at z;exact z
  have hq:(L.beings[i]?.map λb=>p b.at_).getD false=p s.at_:=by rw[hs];rfl
  refine bE (λc=>?_) (λc=>?_)
  ·refine#[_,Z,_,eD,?_,λb' o' ho=>?_,ts++[b],by rw[ah,br];rfl,?_]
   ·have:=eI.len
    have l2:=cY (λi=>(L.beings[i]?.map λb=>p b.at_).getD false) (ba i);rw[jW] at l2;rw[ai];show _ < 2 ^ 24
    lia
   ·rw[au (aI ho hD)];exact sc _ _ ho
   show(ts++[b]).map some=_;rw[dQ,dI,br,br,show ts.map some=_ from eI,cK,hq,if_pos c];simp[hb]
  refine#[sc,ts,eD,?_];show ts.map some=_;rw[dQ,dI,br,show ts.map some=_ from eI,cK,hq,if_neg c];simp
 obtain⟨s1,ts,eD,eI⟩:=e;rw[ai,eP] at eI;have eI:Co bs ts (places (λb=>p b.at_) L.beings):=eI;have tN:=hL.same s1;have YO:=hA.same s1;have q1:=q.on s1;obtain⟨dx,pp,wv,Ex,_,_⟩:=du.same s1 Eu;unfold Om at q1;refine#[_,Z,sa,_,dx,_,_,Z,Ex,Y.bI.cl,Y.dO,Z,Z,_,Z,bE (λc=>?_) (λc=>?_)]
 ·have h0:=(DR fk.act).mp (V.str.inj (of_decide_eq_true c))
  rw[if_pos h0] at q1;exact#[_,Z,_,Z,sa,_,dx,_,_,Z,Ex,Y.bI.cl,Y.el,Z,_,Z,D,a,g,bl,bs,ts,_,L,nx,_,Z,tN,hw,eD,eI,q1]
 have h0:st.act≠0:=λz=>c (decide_eq_true (congrArg V.str ((DR fk.act).mpr z)));rw[if_neg h0] at q1;refine#[_,Z,sa,_,dx,_,_,Z,Ex,Y.bI.cl,Y.dO,Z,Z,_,Z,bE (λc=>?_) (λc=>?_)]
 ·have h1:=(Oi fk.act).mp (V.str.inj (of_decide_eq_true c))
  rw[if_pos h1] at q1;exact#[_,Z,_,Z,sa,_,dx,_,_,Z,Ex,Y.bI.cl,Y.el,Z,D,a,g,bl,bs,ts,_,L,nx,_,Z,tN,hw,eD,eI,q1]
 have h1:st.act≠1:=λz=>c (decide_eq_true (congrArg V.str ((Oi fk.act).mpr z)));rw[if_neg h1] at q1;refine#[_,Z,sa,_,dx,_,_,Z,Ex,Y.bI.cl,Y.dO,Z,Z,_,Z,bE (λc=>?_) (λc=>?_)]
 ·have h2:=(Ol fk.act).mp (V.str.inj (of_decide_eq_true c))
  rw[show(st.act == 2)=true from by simp[h2]] at q1;exact#[_,Z,_,Z,_,Z,sa,_,dx,_,_,Z,Ex,Y.bI.cl,Y.el,Z,m,D,a,g,bl,cR,bs,ts,_,L,nx,st.n,ic,be,t,1,true,Z,.inl #[Z,Z],YO,tN,hw,zc,oN,eD,eI,q1]
 have h2:st.act≠2:=λz=>c (decide_eq_true (congrArg V.str ((Ol fk.act).mpr z)));rw[show(st.act == 2)=false from by simp[h2]] at q1;exact#[_,Z,_,Z,_,Z,sa,_,dx,_,_,Z,Ex,Y.bI.cl,Y.el,Z,_,Z,m,D,a,g,bl,cR,bs,ts,_,L,nx,st.n,ic,be,t,-1,false,Z,.inr #[Z,Z],YO,tN,hw,zc,oN,eD,eI,q1]
def Hy (L:aE) (p:bc->Bool) (kd:Nat) (i:Nat):Bool:=p (Sp.cellAt L.w i)&&(kd != 0 || (gy L (Sp.cellAt L.w i)).isNone)
def BI (L:aE) (p:bc->Bool) (kd n:Nat):aE:=#[L.w,L.h,(ba n).foldl (λg i=>if Hy L p kd i=true then g.set i kd else g) L.ground,L.beings]
theorem adD (L:aE) (p:bc->Bool) (kd n:Nat):(BI L p kd n).ground.length=L.ground.length:=zT (Hy L p kd) kd L.ground n
theorem afj (hw:Sp.WF L) (p:bc->Bool) (kd n:Nat):Sp.WF (BI L p kd n):=
 #[hw.w0,hw.w1,hw.h0,hw.h1,(adD L p kd n).trans hw.gl,hw.ins,hw.nd,hw.n8]
inductive Q1 (vs:List V) (H:Hp) (Q:VK) (_:XK):Prop where
 | mk (pc a g bl:Addr) (bs:List Addr) (L:aE) (nx kd:Nat) (p:bc->Bool) (_:vs=[.ref a,.ref pc,.int (kd:Nat)]) (_:dh H a g bl bs L nx) (_:Sp.WF L) (_:H pc=some (.lst (vb (mask L p)))) (_:Hw H a g bl bs (BI L p kd (L.w * L.h)) nx Q)
def dh.setG {H:Hp} {a g bl:Addr} {bs:List Addr} {L:aE} {nx:Nat} (h:dh H a g bl bs L nx) (hg:L.ground≠[]) {gr:List Nat}:dh (aX H g (.lst (vi gr))) a g bl bs #[L.w,L.h,gr,L.beings] nx:=by
 obtain⟨ez,ha⟩:=h.lv;refine#[#[ez,?_],ah,?_,Paired.imp (λb s #[dx,z]=>#[dx,?_]) h.be]
 ·rw[au (cN ha h.gr (by intro q;cases q))];exact ha
 ·rw[au (h.AM h.bl hg).2.1];exact h.bl
 rw[au (cN z h.gr (by intro q;cases q))];exact z
def aam (ky:aK aL 2 T.fF (Cm)):aK aL 3 T.pD (Q1):=by
 refine Y.pD.F.run Ee λbx A outer s H vs Q E hr h=>?_;obtain⟨pc,a,g,bl,bs,L,nx,kd,p,rfl,hL,hw,Oq,q⟩:=h;refine#[_,(aq (kJ PassesOwn.never rfl (nR Y.i8 (ir Y.iu (aa 1))) (gu 3 Ee.nd) (aq (bG (qK (w_and (gD (bU (aa 1) (aa 3))) (vR (qK (w_or (Ab (aa 2) (df Y.Fz)) (oX (sX (eQ Y.fF Y.aM.cl ky (hr.le rfl) aG (aa 0) (ae (aa 3) ao))))))))) (aq (Yu (aa 2) (acL (aW (aa 0)) (aa 3)))) bp)))),?_];have FU:=WF.small hw;have hN:0 < L.w * L.h:=HF hw.lZ (by have:=hw.h0;lia);have ahy:pc≠g:=λe=>by
  have hg:=hL.gr;rw[<- e,Oq] at hg;have z:=HO.lst.inj (bN.inj hg);have hl:(vb (mask L p)).length=L.w * L.h:=by rw[kZ,gs]
  cases h1:mask L p with
  | nil=>rw[h1] at hl;simp[vb] at hl;lia
  | cons x r=>
   rw[h1] at z;cases h2:L.ground with
   | nil=>rw[h2] at z;cases z
   | cons y q=>rw[h2] at z;cases z
 refine#[_,Z,pc,_,Z,.inl (aO.of Oq),_,Z,by lia,by rw[kZ,gs];lia,?_];rw[kZ,gs,cg];refine rW (λi σ Hc=>(∃z,σ = [some (.ref a),some (.ref pc),some (.int (kd:Nat)),z])/\Out a g bs H Hc/\Hc pc=some (.lst (vb (mask L p)))/\dh Hc a g bl bs (BI L p kd i) nx) #[#[none,Z],Out.refl a g bs H,Oq,hL] (λi σ Hc hi e=>?_) (λσ Hc e=>q Hc e.2.1 e.2.2.2);obtain⟨⟨z,rfl⟩,eO,ep,eL⟩:=e;have Lh:=afj hw p kd i;obtain⟨ez,ha⟩:=eL.lv;have succ:BI L p kd (i+1)=⟨L.w,L.h,if Hy L p kd i=true then(BI L p kd i).ground.set i kd else(BI L p kd i).ground,L.beings⟩:=by
  unfold BI;rw[dQ,gZ];rfl
 have no:Hy L p kd i=false->dh Hc a g bl bs (BI L p kd (i+1)) nx:=λh=>by
  rw[succ,h,if_neg (by simp)];exact eL
 have yes:Hy L p kd i=true->vN (bR 2) (RD (jf K (bR 0) "ground") (bR 3) Mw) { nx:=λσ Hc=>(∃z,σ = [some (.ref a),some (.ref pc),some (.int (kd:Nat)),z])/\Out a g bs H Hc/\Hc pc=some (.lst (vb (mask L p)))/\dh Hc a g bl bs (BI L p kd (i+1)) nx,rt:=Q } [some (.ref a),some (.ref pc),some (.int (kd:Nat)),some (.int ((i:Nat):Int))] Hc:=λh=>by
  refine#[_,Z,_,Z,a,_,ez,_,_,Z,ha,Y.aM.cl,Y.dD,Z,_,Z,g,_,_,i,Z,Z,eL.gr,?_,#[_,Z],eO.trans λb o h1 h2 h3 hb=>by rw[au h2];exact hb,?_,?_]
  ·refine QR ?_
   rw[iz,Lh.gl];exact hi
  ·rw[au ahy];exact ep
  rw[succ,h,if_pos rfl];have e:(vi (BI L p kd i).ground).set i (.int (kd:Nat))=vi ((BI L p kd i).ground.set i kd):=by
   unfold vi;rw[List.map_set]
  rw[e];exact eL.setG (WF.LI Lh)
 rw[wX];refine#[_,Z,_,Z,pc,_,_,_,Z,Z,aO.of ep,uD (uZ hi),_,Z,bE (λc=>?_) (λc=>?_)]
 ·refine#[_,Z,Z,_,Z,?_]
  have ek:(!decide (V.int (kd:Nat)=V.int 0))=(kd != 0):=by
   apply fX;simp only[fM,decide_eq_false_iff_not,bne_iff_ne,V.int.injEq]
   lia
  rw[ek];refine bE (λc2=>?_) (λc2=>?_)
  ·exact cF (yes (by unfold Hy;rw[c,c2];rfl))
  have QM:(kd != 0)=false:=cD.mpr c2;refine#[_,Z,a,ez,_,Z,ha,y9,_,Z,a,g,bl,bs,_,nx,i,Z,eL,Lh,λj b s hb hs hf=>?_,λhf=>?_]
  ·refine#[_,Z,cH #[#[_,Z],eO,ep,no ?_]]
   have hf:gy L (Sp.cellAt L.w i)=some s:=hf;unfold Hy;rw[hf,QM];simp
  have hf:gy L (Sp.cellAt L.w i)=none:=hf;refine#[_,Z,cF (yes ?_)];unfold Hy;rw[hf,c,QM];rfl
 exact cH #[#[_,Z],eO,ep,no (by unfold Hy;rw[cD.mpr c];rfl)]
inductive Ot (vs:List V) (H:Hp) (Q:VK) (_:XK):Prop where
 | mk (m pc a g bl cR:Addr) (bs:List Addr) (L:aE) (nx ic:Nat) (be:aU) (t:bc) (p:bc->Bool) (_:vs=[.ref m,.ref pc]) (_:Cn H m a cR be t) (_:dh H a g bl bs L nx) (_:Sp.WF L) (_:bs[ic]?=some cR) (_:L.beings[ic]?=some be) (_:bV L t=true) (_:H pc=some (.lst (vb (mask L p)))) (_:Hw H a g bl bs (if(p t&&fw L t)=true then fY L ic (λ_=>mE be t) else L) nx Q)
def W7 (fG:aK aL 1 T.eG (xG)) (ia:aK aL 3 T.eU (Gy)) :
  aK aL 4 T.zK (Ot):=by
 refine Y.zK.F.run Nm λbx A outer s H vs Q E hr h=>?_;obtain⟨m,pc,a,g,bl,cR,bs,L,nx,ic,be,t,p,rfl,hA,hL,hw,zc,oN,il,Oq,q⟩:=h;refine#[_,(aj (aZ 2 Nm.nd (aW (aa 0))) (aq (bG (qK (w_and (gD (bU (aa 1) (eQ Y.eG Y.aM.cl fG (hr.le rfl) aG (aa 2) (ae (aW (aa 0)) (ae (aW (aa 0)) ao))))) (vR (gD (eQ Y.eU Y.aM.cl ia (hr.le rfl) aG (aa 2) (ae (aW (aa 0)) (ae (aW (aa 0)) ao))))))) (aj (eR (aW (aa 0)) (aW (aa 0))) (aq (eR (aW (aa 0)) (aW (aa 0))))) bp))),?_];obtain⟨nX,hm⟩:=hA.am;obtain⟨ez,ha⟩:=hL.lv;obtain⟨nW,hc⟩:=hA.cs;have Ew:m≠cR:=λe=>by
  obtain⟨_,_,p3⟩:=hL.Kz hm;exact p3 (by rw[e];exact aP zc)
 refine#[_,Z,m,_,nX,_,_,Z,hm,Y.bZ.cl,Y.ft,Z,?_];refine#[_,Z,_,Z,a,ez,_,Z,ha,qO,_,Z,m,_,nX,_,_,Z,hm,Y.bZ.cl,Y.ny,Z,_,Z,m,_,nX,_,_,Z,hm,Y.bZ.cl,Y.nz,Z,a,g,bl,bs,L,nx,_,_,Z,hL,hw.w1,pc,_,_,.bl (p t),Z,Z,aO.of Oq,?_,_,Z,?_]
 ·rw[show t.2 * ((L.w:Nat):Int)+t.1=((gz L t:Nat):Int) from(om il).2.symm]
  have z:=uD (uZ (L:=L) (p:=p) (EI il));rw[(om il).1] at z;exact z
 refine bE (λc=>?_) (λc=>?_)
 ·rw[c,cT] at q
  refine#[_,Z,a,ez,_,Z,ha,uO,_,Z,m,_,nX,_,_,Z,hm,Y.bZ.cl,Y.ny,Z,_,Z,m,_,nX,_,_,Z,hm,Y.bZ.cl,Y.nz,Z,a,g,bl,bs,L,nx,_,_,Z,hL,hw,_,Z,bE (λc2=>?_) (λc2=>?_)]
  ·have c2:fw L t=true:=c2
   rw[if_pos c2] at q;refine#[_,Z,m,_,nX,_,_,Z,hm,Y.bZ.cl,Y.ny,Z,_,Z,m,_,nX,_,_,Z,hm,Y.bZ.cl,Y.eJ,Z,cR,_,nW,_,Z,hc,Y.aR.cl,Y.fq,by show 7 < 1000;decide,?_];have hm':aX H cR (.ins T.aR.C nW (ki "x" (.int t.1) (wA be))) m=some (.ins T.bZ.C nX (DJ (.ref a) (.ref cR) (.int t.1) (.int t.2))):=by rw[au Ew];exact hm
   refine#[_,Z,m,_,nX,_,_,Z,hm',Y.bZ.cl,Y.nz,Z,_,Z,m,_,nX,_,_,Z,hm',Y.bZ.cl,Y.eJ,Z,cR,_,nW,_,Z,ah,Y.aR.cl,Y.fS,by show 7 < 1000;decide,?_];rw[ij];refine q _ (Out.at (aP zc)) ?_;exact hL.setB (s':=mE be t) hw.nd zc oN hc
  have c2:¬ fw L t=true:=c2;rw[if_neg c2] at q;exact q H (Out.refl a g bs H) hL
 rw[cD.mpr c,dr,if_neg (by simp)] at q;exact cH (q H (Out.refl a g bs H) hL)
theorem FZ (f:aU->aU) :∀(is:List Nat) (L:aE),is.foldl (λL i=>fY L i f) L=#[L.w,L.h,L.ground,is.foldl (λl i=>l.modify i f) L.beings]
 | [],L=>rfl
 | i::r,L=>by
  rw[fT,FZ f r,fT];rfl
theorem AN {L:aE} (hw:Sp.WF L) {p:bc->Bool} {c:bc} (hc:bV L c=true):((iO L).filter p).contains c=p c:=Sp.contains_filter ((EG hw.lZ).mpr hc)
def Q5 {L:aE} (hw:Sp.WF L) (p:bc->Bool) (d:Int):(places (λb=>p b.at_) L.beings).foldl (λL i=>fY L i (sy d)) L=Vbrgah.addLife L ((iO L).filter p) d:=by
 rw[FZ,GK];unfold Vbrgah.addLife;congr 1;apply cP;intro b hb;rw[AN hw (hw.ins b hb)];rfl
def Ii {L:aE} (hw:Sp.WF L) (p:bc->Bool) (fr:bc) (away:Bool) (n:Nat):(places (λb=>p b.at_) L.beings).foldl (hU fr away n) L=Vbrgah.shoveAll fr away n L ((L.beings.filter λb=>((iO L).filter p).contains b.at_).map λb=>b.number):=by
 rw[uv fr away n (places (λb=>p b.at_) L.beings) L _ hw.nd];rw[BX];congr 2;apply zf;intro b hb;rw[AN hw (hw.ins b hb)]
def Ou {L:aE} (hw:Sp.WF L) {ic:Nat} {be:aU} (oN:L.beings[ic]?=some be) (t:bc):gT L #[be.number,t]=#[be.at_,be.side,t]/\(L.beings.find? λb=>b.number == be.number)=some be:=by
 have:=ud hw.nd oN;refine#[?_,this];unfold gT;dsimp only;rw[this]
inductive F0 (vs:List V) (H:Hp) (Q:VK) (_:XK):Prop where
 | mk (m sa a g bl cR:Addr) (bs:List Addr) (L:aE) (nx ic:Nat) (be:aU) (t:bc) (st:cC) (_:vs=[.ref m,.ref sa]) (_:On H m a g bl bs cR L nx be t) (_:ke L) (_:bs[ic]?=some cR) (_:L.beings[ic]?=some be) (_:bV L t=true) (_:du H sa st) (_:g7 st) (_:Hw H a g bl bs (EL L ⟨be.number,t⟩ st (kD L ⟨be.at_,be.side,t⟩ st.area)) nx Q)
def U3 (jI:aK aL 5 T.jg (BH)) (AO:aK aL 3 T.pD (Q1))
  (KC:aK aL 4 T.zK (Ot)) (xJ:aK aL 6 T.mw (Oo)) :
  aK aL 7 T.vg (F0):=by
 refine Y.vg.F.run Jj λbx A outer s H vs Q E hr h=>?_;obtain⟨m,sa,a,g,bl,cR,bs,L,nx,ic,be,t,st,rfl,O,hd,zc,oN,il,Eu,fk,q⟩:=h;refine#[_,(aj (aZ 2 Jj.nd (aJ Y.jg jI (hr.le rfl) aG (ae (aW (aa 1)) (ae (aa 0) ao)))) (aq (bG (dg (aW (aa 1)) dB) (aq (dC (aJ Y.pD AO (hr.le rfl) aG (ae (aW (aa 0)) (ae (aa 2) (ae (aW (aa 1)) ao)))))) (aq (bG (dg (aW (aa 1)) dB) (aq (dC (aJ Y.zK KC (hr.le rfl) aG (ae (aa 0) (ae (aa 2) ao))))) (aq (dC (aJ Y.mw xJ (hr.le rfl) aG (ae (aa 0) (ae (aa 2) (ae (aa 1) ao))))))))))),?_];obtain⟨dx,pa,wv,Ex,hAr,_⟩:=id Eu;have hw:=O.wf;obtain⟨DU,YQ⟩:=Ou hw oN t;rw[jd hw.lZ (m:=#[be.at_,be.side,t]) il] at q;generalize hp:has L #[be.at_,be.side,t] st.area=p at q;refine#[_,Z,sa,_,dx,_,_,Z,Ex,Y.bI.cl,Y.me,Z,_,Z,pa,m,a,g,bl,bs,cR,L,nx,be,t,st.area,Z,hAr,fk.area.1,by have:=fk.area.2;lia,O,hd,λH1 pc s1 n1 e1=>?_];rw[hp] at e1;have O1:=O.same s1;have q1:=q.on s1;have adF:=du.same s1 Eu;obtain⟨oS,pa1,wv1,W8,_,_⟩:=id adF;obtain⟨nX,hm⟩:=O1.am.am;unfold EL at q1;have h6:=fk.act;refine#[_,Z,sa,_,oS,_,_,Z,W8,Y.bI.cl,Y.dO,Z,Z,_,Z,bE (λc=>?_) (λc=>?_)]
 ·have h4:=(vo fk.act).mp (V.str.inj (of_decide_eq_true c))
  rw[if_neg (by lia),if_neg (by lia),if_neg (by lia),if_neg (by lia),if_pos h4] at q1;refine#[_,Z,m,_,nX,_,_,Z,hm,Y.bZ.cl,Y.ft,Z,_,Z,_,Z,sa,_,oS,_,_,Z,W8,Y.bI.cl,Y.el,Z,pc,a,g,bl,bs,L,nx,st.n,p,Z,O1.lv,hw,e1,?_];have e:Vbrgah.setGround L ((iO L).filter p) st.n=BI L p st.n (L.w * L.h):=by
   have z:=J9 hw (p:=p) st.n;unfold BI Hy;rw[<- z];rfl
  rw[e] at q1;exact q1
 have h4:st.act≠4:=λz=>c (decide_eq_true (congrArg V.str ((vo fk.act).mpr z)));refine#[_,Z,sa,_,oS,_,_,Z,W8,Y.bI.cl,Y.dO,Z,Z,_,Z,bE (λc=>?_) (λc=>?_)]
 ·have h5:=(qj fk.act).mp (V.str.inj (of_decide_eq_true c))
  rw[if_neg (by lia),if_neg (by lia),if_neg (by lia),if_neg (by lia),if_neg h4] at q1;dsimp only at q1;rw[YQ] at q1;dsimp only at q1;rw[AN hw il] at q1;refine#[_,Z,_,Z,m,pc,a,g,bl,cR,bs,L,nx,ic,be,t,p,Z,O1.am,O1.lv,hw,zc,oN,il,e1,?_];rw[qk (b':=mE be t) hw.nd oN rfl] at q1;exact q1
 have h5:st.act≠5:=λz=>c (decide_eq_true (congrArg V.str ((qj fk.act).mpr z)));refine#[_,Z,_,Z,_,Z,m,pc,sa,a,g,bl,cR,bs,L,nx,ic,be,t,p,st,Z,O1.am,O1.lv,hw,zc,oN,e1,adF,fk,by lia,?_];unfold Om;by_cases h0:st.act=0
 ·rw[if_pos h0,Q5 hw]
  rw[if_pos h0] at q1;exact q1
 rw[if_neg h0] at q1 ⊢;by_cases h1:st.act=1
 ·rw[if_pos h1,Q5 hw]
  rw[if_pos h1] at q1;exact q1
 rw[if_neg h1] at q1 ⊢;rw[Ii hw];rw[DU] at q1;by_cases h2:st.act=2
 ·rw[if_pos h2] at q1
  rw[show(st.act == 2)=true from by simp[h2]];exact q1
 rw[if_neg h2,if_pos (by lia)] at q1;rw[show(st.act == 2)=false from by simp[h2]];exact q1
def aan:ke L↔∀(i j:Nat) (b c:aU),L.beings[i]?=some b->L.beings[j]?=some c->b.at_=c.at_->i=j:=by
 unfold ke;constructor
 ·intro h i j b c hb hc e
  have a1:(L.beings.map (·.at_))[i]?=some b.at_:=by rw[aA,hb];rfl
  have a2:(L.beings.map (·.at_))[j]?=some b.at_:=by rw[aA,hc,e];rfl
  obtain⟨b1,c1⟩:=az.mp a1;obtain⟨b2,c2⟩:=az.mp a2;exact(mQ h).mp (c1.trans c2.symm)
 intro h;refine List.pairwise_iff_getElem.mpr λi j hi hj hij e=>?_;rw[ai] at hi hj;rw[List.getElem_map,List.getElem_map] at e;have:=h i j _ _ (aw hi) (aw hj) e
 lia
def Ov (hd:ke L) (hs:L.beings[i]?=some s) (h:s'.at_=s.at_\/fw L s'.at_=true):ke (fY L i λ_=>s'):=by
 rw[aan] at hd ⊢;have key :∀(j:Nat) (c:aU),L.beings[j]?=some c->j≠i->s'.at_≠c.at_:=λj c hc hj e=>by
  rcases h with h | h
  ·exact hj (hd i j s c hs hc (by rw[<- h,e])).symm
  unfold fw at h;simp only[aB] at h;exact uJ.mp h.2.2 j c hc e.symm
 intro x y b c hb hc e;rw[uG] at hb hc;by_cases e1:i=x <;> by_cases e2:i=y
 ·lia
 ·rw[if_pos e1,<- e1,hs] at hb
  rw[if_neg e2] at hc;cases hb;exact absurd e (key y c hc (Ne.symm e2))
 ·rw[if_neg e1] at hb
  rw[if_pos e2,<- e2,hs] at hc;cases hc;exact absurd e.symm (key x b hb (Ne.symm e1))
 rw[if_neg e1] at hb;rw[if_neg e2] at hc;exact hd x y b c hb hc e
theorem JM (L:aE) :∀(n:Nat) (b:aU) (dx dy:Int),(jR L n b dx dy).at_=b.at_\/fw L (jR L n b dx dy).at_=true
 | 0,b,_,_=>.inl rfl
 | n+1,b,dx,dy=>by
  unfold jR;dsimp only;split
  ·rename_i h
   rcases JM L n (mE b (b.at_.1+dx,b.at_.2+dy)) dx dy with z | z
   ·rw[z];exact .inr h
   exact .inr z
  exact .inl rfl
def Sy (nd:(L.beings.map (·.number)).Nodup) (hd:ke L):ke (hU fr away n L i):=by
 unfold hU;cases hi:L.beings[i]? with
 | none=>exact hd
 | some b=>
  show ke (sQ L fr away n b);unfold sQ;dsimp only;split
  ·exact hd
  rw[qk nd hi (kQ _ _ _ _ _)];exact Ov hd hi (JM L _ _ _ _)
theorem F1 :∀(is:List Nat) {L:aE},(L.beings.map (·.number)).Nodup->ke L->ke (is.foldl (hU fr away n) L)
 | [],L,_,hd=>hd
 | i::is,L,nd,hd=>by
  rw[fT];exact F1 is (by rw[D8 nd];exact nd) (Sy nd hd)
def GB (hd:ke L) (f:aU->aU) (hf :∀b,(f b).at_=b.at_):ke #[L.w,L.h,L.ground,L.beings.map f]:=by
 unfold ke at hd ⊢;show((L.beings.map f).map (·.at_)).Nodup;rw[bB,show((λb:aU=>b.at_) ∘ f)=(·.at_) from funext hf];exact hd
def W9 (hw:Sp.WF L) (hd:ke L) (k:iG) (s:cC) (p:bc->Bool):ke (EL L k s ((iO L).filter p)):=by
 unfold EL;split
 ·exact GB hd _ λb=>by split <;> rfl
 split
 ·exact GB hd _ λb=>by split <;> rfl
 split
 ·rw[<- Ii hw];exact F1 _ hw.nd hd
 split
 ·rw[<- Ii hw];exact F1 _ hw.nd hd
 split
 ·exact hd
 split
 ·rename_i b hb
  split
  ·rename_i hc
   obtain⟨i,hi,e⟩:=g9 (rO hb);have FX:L.beings[i]?=some b:=by rw[aw hi,e]
   rw[qk (b':=mE b k.target) hw.nd FX rfl];rw[aB] at hc;exact Ov hd FX (.inr hc.2)
  exact hd
 exact hd
def JN (hw:Sp.WF L) (hd:ke L) (k:iG) (s:cC) (ht:bV L (gT L k).target=true):ke (EA L k s):=by
 rw[EM];split
 ·exact hd
 rw[jd hw.lZ ht];exact W9 hw hd k s _
def Ij (b:aU):aU:=#[b.number,b.at_,min b.life b.most,b.most,b.mana,b.side]
def Xa (L:aE):(ba L.beings.length).foldl (λL i=>fY L i Ij) L=#[L.w,L.h,L.ground,L.beings.map Ij]:=by
 rw[FZ];have z:=GK (λ_=>true) Ij L.beings;have e:places (λ_=>true) L.beings=ba L.beings.length:=by
  unfold places;apply List.filter_eq_self.mpr;intro i hi;rw[aw (eW.mp hi)];rfl
 rw[e] at z;rw[z];simp
inductive LK (vs:List V) (H:Hp) (Q:VK) (_:XK):Prop where
 | mk (a g bl:Addr) (bs:List Addr) (L:aE) (nx:Nat) (_:vs=[.ref a]) (_:dh H a g bl bs L nx) (_:Sp.WF L) (_ :∀H' AQ AS,H AQ=none->Out a g bs H H'->(∀b∈AS,b∈bs)->dh H' a g AQ AS (Vbrgah.settled L) nx->Q .cj H')
def U4:aK aL 1 T.mx (LK):=by
 refine Y.mx.F.run rJ λbx A outer s H vs Q E hr h=>?_;obtain⟨a,g,bl,bs,L,nx,rfl,hL,hw,q⟩:=h;refine#[_,(aj (eR (aa 0) (lP [("being",1)] rfl rJ.nd (fo (aW (aa 0))) (dJ rfl) (λ_ _ _ _ _=>(gu 1 rJ.nd)) (λ_ _ _ _ _=>(E9 (Kh (aW (aa 1)) bL))) (λ_ _ _ _ _=>(aa 1)))) (aq (kJ PassesOwn.never rfl (fo (aW (aa 0))) (gu 1 rJ.nd) (aq (eR (aa 1) (vT Y.uC rfl (aW (aa 1)) (aW (aa 1)))))))),?_];obtain⟨ez,ha⟩:=hL.lv;have eP:bs.length=L.beings.length:=hL.be.length;have h8:=hw.n8;refine#[_,Z,a,_,ez,_,_,Z,ha,Y.aM.cl,Y.dE,Z,bl,Z,#[_,aO.of hL.bl],λD hD=>?_];refine qX (xs:=bs.map V.ref) (λi H'=>bo H H'/\∃ts,H' D=some (.lst (ts.map V.ref))/\Co bs ts ((ba i).filter λi=>(L.beings[i]?.map λb=>decide (0 < b.life)).getD false)) #[aT hD _,[],ah,Z] (λi H' _ e=>aO.of (e.1 _ _ hL.bl)) (λi x H' hx e=>?_) (λH1 e=>?_)
 ·obtain⟨sc,ts,eD,eI⟩:=e
  obtain⟨b,s,fO,rfl,hb,hs,hB⟩:=wB (hL.be.same sc) hx;have hi:i < bs.length:=(az.mp hb).1;refine#[Z,?_];refine#[_,Z,b,_,fO,_,_,Z,hB,Y.aR.cl,Y.gP,Z,_,_,Z,Z,_,Z,?_];have hq:(L.beings[i]?.map λb=>decide (0 < b.life)).getD false=decide (0 < s.life):=by rw[hs];rfl
  refine bE (λc=>?_) (λc=>?_)
  ·refine#[_,Z,_,eD,?_,λb' o' ho=>?_,ts++[b],by rw[ah,br];rfl,?_]
   ·have:=eI.len
    have l2:=cY (λi=>(L.beings[i]?.map λb=>decide (0 < b.life)).getD false) (ba i);rw[jW] at l2;rw[ai];show _ < 2 ^ 24
    lia
   ·rw[au (aI ho hD)];exact sc _ _ ho
   show(ts++[b]).map some=_;rw[dQ,dI,br,br,show ts.map some=_ from eI,cK,hq,if_pos c];simp[hb]
  refine#[sc,ts,eD,?_];show ts.map some=_;rw[dQ,dI,br,show ts.map some=_ from eI,cK,hq,if_neg c];simp
 obtain⟨s1,ts,eD,eI⟩:=e;rw[ai,eP] at eI;have eI:Co bs ts (places (λb=>decide (0 < b.life)) L.beings):=eI;have tN:=hL.same s1;obtain⟨FW,yu⟩:=tN.lv;have adG :∀b∈ts,b∈bs:=λb hb=>by
  obtain⟨j,hj,e⟩:=g9 hb;obtain⟨i,_,hi⟩:=eI.get (show ts[j]?=some b by rw[aw hj,e]);exact aP hi
 have hDa:D≠a:=λe=>by rw[e,ha] at hD;cases hD
 let L1:aE:=#[L.w,L.h,L.ground,L.beings.filter λb=>decide (0 < b.life)]
 have IV:=D7 (λb:aU=>decide (0 < b.life)) L.beings;have Ly:dh (aX H1 a (.ins T.aM.C FW (gc (.int (L.w:Nat)) (.int (L.h:Nat)) (.ref g) (.ref D) (.int (nx:Nat))))) a g D ts L1 nx:=by
  refine#[#[FW,ah],?_,?_,Paired.mk ?_ λj b s hj hs=>?_]
  ·rw[au (cN tN.gr yu (by intro q;cases q))];exact tN.gr
  ·rw[au hDa];exact eD
  ·have z:=congrArg dA IV
   rw[ai,ai] at z;rw[eI.len,z]
  obtain⟨i,hi,FX⟩:=eI.get hj;have z:((places (λb:aU=>decide (0 < b.life)) L.beings).map λi=>L.beings[i]?)[j]?=((L.beings.filter λb=>decide (0 < b.life)).map some)[j]?:=by rw[IV]
  rw[aA,aA,hi,show(L.beings.filter λb=>decide (0 < b.life))[j]?=some s from hs] at z;have hsi:L.beings[i]?=some s:=bN.inj z;obtain⟨s',YF,fO,hB⟩:=Paired.get tN.be FX;rw[hsi] at YF;cases YF;refine#[fO,?_];rw[au (cN hB yu (λq=>absurd (congrArg dA (HO.ins.inj q).2.2) (by simp[gc,wA,jS])))];exact hB
 refine#[_,Z,a,_,FW,_,Z,yu,Y.aM.cl,Y.dE,by show 5 < 1000;decide,?_];rw[As];have oA:Out a g bs H (aX H1 a (.ins T.aM.C FW (gc (.int (L.w:Nat)) (.int (L.h:Nat)) (.ref g) (.ref D) (.int (nx:Nat))))):=λb o h1 h2 h3 hb=>by rw[au h1];exact s1 _ _ hb
 have nd1:(L1.beings.map (·.number)).Nodup:=(xj.map _).nodup hw.nd;have U5 :∀(is:List Nat) (M:aE),(is.foldl (λL i=>fY L i Ij) M).beings.map (·.number)=M.beings.map (·.number):=by
  intro is
  induction is with
  | nil=>intro M;rfl
  | cons i r ih=>intro M;rw[fT,ih];exact vG λ_ _=>rfl
 have tsl:ts.length=L1.beings.length:=Ly.be.length;refine#[_,Z,a,_,FW,_,_,Z,ah,Y.aM.cl,Y.dE,Z,D,Z,#[_,aO.of Ly.bl],?_];refine jD (xs:=ts.map V.ref) (λj σ Hc=>(∃z,σ = [some (.ref a),z])/\Out a g bs H Hc/\dh Hc a g D ts ((ba j).foldl (λL i=>fY L i Ij) L1) nx) #[#[_,Z],oA,Ly] (λj σ Hc _ e=>aO.of e.2.2.bl) (λj x σ Hc hx e=>?_) (λσ Hc e=>?_)
 ·obtain⟨⟨z,rfl⟩,eO,eL⟩:=e
  obtain⟨b,rfl,hb⟩:=Od hx;obtain⟨s,hs,dx,hB⟩:=Paired.get eL.be hb;refine#[_,Z,b,_,dx,_,_,Z,hB,Y.aR.cl,Y.gP,Z,_,Z,b,_,dx,_,_,Z,hB,Y.aR.cl,Y.pK,Z,_,_,Z,Z,_,Z,b,_,dx,_,Z,hB,Y.aR.cl,Y.gP,by show 7 < 1000;decide,#[_,Z],eO.trans (Out.at (adG b (aP hb))),?_];rw[Ih,dQ,gZ];show dh _ a g D ts (fY _ j Ij) nx;rw[QV hs];exact eL.setB (s':=Ij s) (by rw[U5];exact nd1) hb hs hB
 obtain⟨_,eO,eL⟩:=e;rw[ai,tsl,Xa] at eL;exact q Hc D ts hD eO adG eL
def Ik (n:Int) (b:aU):aU:=#[b.number,b.at_,b.life,b.most,b.mana - n,b.side]
def adH (nd:(L.beings.map (·.number)).Nodup) (oN:L.beings[ic]?=some be) (n:Int):xU L be.number n=fY L ic λ_=>Ik n be:=by
 rw[<- qk (b':=Ik n be) nd oN rfl];unfold xU Vbrgah.setBeing;congr 1;apply cP;intro b hb;show(if b.number=be.number then Ik n b else b)=(if b.number=be.number then Ik n be else b);by_cases e:b.number=be.number
 ·rw[if_pos e,if_pos e]
  obtain⟨j,hj,ej⟩:=g9 hb;have h1:=ud nd (show L.beings[j]?=some b by rw[aw hj,ej]);have h2:=ud nd oN;rw[e,h2] at h1;cases h1;rfl
 rw[if_neg e,if_neg e]
theorem DV (k:iG) :∀(l:cz) (L:aE) (s:cC),gA k L (l++[s])=EA (gA k L l) k s
 | [],L,s=>rfl
 | x::l,L,s=>DV k l (EA L k x) s
def Xb (hw:Sp.WF L) (p:bc->Bool):(mask L p).any id = !((iO L).filter p).isEmpty:=by
 apply fX;rw[oj L hw.lZ,List.any_eq_true,fM,<- dz,List.isEmpty_iff,List.filter_eq_nil_iff];constructor
 ·rintro⟨x,hx,GV⟩ h
  unfold mask at hx;obtain⟨k,hk,rfl⟩:=bX.mp hx;exact h _ (bX.mpr #[k,hk,Z]) GV
 intro h;apply Classical.byContradiction;intro hn;apply h;intro c hc z;obtain⟨k,hk,rfl⟩:=bX.mp hc;exact hn #[_,bX.mpr #[k,hk,Z],z]
def du.out {H H':Hp} {a g bl:Addr} {bs:List Addr} {L:aE} {nx:Nat} (hL:dh H a g bl bs L nx) (hg:L.ground≠[]) (o:Out a g bs H H') {sa:Addr} {st:cC} (h:du H sa st):du H' sa st:=by
 obtain⟨ez,ha⟩:=hL.lv;obtain⟨dx,p,wv,h0,_⟩:=id h;have adI :∀(b:Addr) (u:HO),H b=some u->(∀C dx s,u≠.ins C dx (wA s))->b∉bs:=λb u hb hn hm=>by
  obtain⟨i,hi,e⟩:=g9 hm;obtain⟨s,_,qH,z⟩:=Paired.get hL.be (show bs[i]?=some b by rw[aw hi,e]);rw[hb] at z;exact hn _ _ _ (bN.inj z)
 refine du.mono h (λC qH fs z=>?_) λp l hA hl=>?_
 ·rw[h0] at z
  cases z;refine o _ _ (cN h0 ha (λq=>absurd (congrArg dA (HO.ins.inj q).2.2) (by simp[gc,yo]))) (cN h0 hL.gr (by intro q;cases q)) (adI _ _ h0 λC dx s q=>?_) h0;exact absurd (congrArg dA (HO.ins.inj q).2.2) (by simp[yo,wA,jS])
 obtain⟨as,w1,w2⟩:=hA;obtain⟨o1,o2,o3⟩:=hL.AM w1 hg;exact#[as,o _ _ o1 o2 o3 w1,eV.mono w2 λb xs z=>o _ _ (cN z ha (by intro q;cases q)) (cN z hL.gr (by intro q;cases q)) (adI _ _ z λC dx s q=>by cases q) z]
def Nh (eL:dh Hc a g bl bs L nx) (eO:Out a g bs H Hc) (h:Hc x=none):H x=none:=by
 cases e:H x with
 | none=>rfl
 | some o=>
  exfalso;by_cases h1:x=a
  ·obtain⟨dx,z⟩:=eL.lv
   rw[<- h1,h] at z;cases z
  by_cases h2:x=g
  ·have z:=eL.gr
   rw[<- h2,h] at z;cases z
  by_cases h3:x∈bs
  ·obtain⟨i,hi⟩:=lH.mp h3
   obtain⟨s,_,dx,z⟩:=Paired.get eL.be hi;rw[h] at z;cases z
  have z:=eO x o h1 h2 h3 e;rw[h] at z;cases z
inductive Q6 (vs:List V) (H:Hp) (Q:VK) (_:XK):Prop where
 | mk (m sl a g bl cR:Addr) (bs as:List Addr) (L:aE) (nx ic:Nat) (be:aU) (t:bc) (sp:cz) (_:vs=[.ref m,.ref sl,.int (cW L.w L.h sp:Nat)]) (_:On H m a g bl bs cR L nx be t) (_:ke L) (_:bs[ic]?=some cR) (_:L.beings[ic]?=some be) (_:bV L t=true) (_:H sl=some (.lst (as.map V.ref))) (_:hZ H as sp) (_:(∀s∈sp,g7 s)) (_ :∀H' AQ AS,H AQ=none->Out a g bs H H'->(∀b∈AS,b∈bs)->dh H' a g AQ AS (iH L ⟨be.number,t⟩ sp) nx->Q .cj H')
def aao (jI:aK aL 5 T.jg (BH)) (F2:aK aL 7 T.vg (F0)) (xK:aK aL 1 T.mx (LK)) :
  aK aL 8 T.pC (Q6):=by
 refine Y.pC.F.run Ec λbx A outer s H vs Q E hr h=>?_;obtain⟨m,sl,a,g,bl,cR,bs,as,L,nx,ic,be,t,sp,rfl,O,hd,zc,oN,il,FL,hS,hwS,q⟩:=h;refine#[_,(aj (acM (aW (aa 0)) (aa 2)) (aj (kJ PassesOwn.never rfl (fo (aa 1)) (gu 3 Ec.nd) (aq (bG (qK (w_or (sX (aW (aa 3))) (oX (gD (R6 Y.R9 rfl (aJ Y.jg jI (hr.le rfl) aG (ae (aW (aa 3)) (ae (aa 0) ao)))))))) (aq (dC (aJ Y.vg F2 (hr.le rfl) aG (ae (aa 0) (ae (aa 3) ao))))) bp))) (aq (dC (aJ Y.mx xK (hr.le rfl) aG (ae (aW (aa 0)) ao)))))),?_];have hw:=O.wf;have hL:=O.lv;obtain⟨nX,hm⟩:=O.am.am;obtain⟨nW,hc⟩:=O.am.cs;obtain⟨o1,o2,o3⟩:=hL.AM FL (WF.LI hw);obtain⟨p1,p2,p3⟩:=hL.Kz hm;have mh:as.length=sp.length:=hS.length
 let k:iG:=#[be.number,t]
 let L0:=xU L be.number (cW L.w L.h sp:Nat)
 have Sz:j0 L L0:=uH L _ _;have hw0:Sp.WF L0:=Sz.wf hw;have hd0:ke L0:=GB hd _ λb=>by split <;> rfl
 refine#[_,Z,m,_,nX,_,_,Z,hm,Y.bZ.cl,Y.eJ,Z,cR,_,nW,_,_,Z,hc,Y.aR.cl,Y.mL,Z,_,Z,_,_,Z,Z,nW,_,hc,by show 7 < 1000;decide,?_];have hL0:dh (aX H cR (.ins T.aR.C nW (wA (Ik (cW L.w L.h sp:Nat) be)))) a g bl bs L0 nx:=by
  have z:=hL.setB (s':=Ik (cW L.w L.h sp:Nat) be) hw.nd zc oN hc;rw[<- adH hw.nd oN] at z;exact z
 have oO:Out a g bs H (aX H cR (.ins T.aR.C nW (wA (Ik (cW L.w L.h sp:Nat) be)))):=Out.at (aP zc);refine#[_,Z,sl,Z,#[_,aO.of (oO _ _ o1 o2 o3 FL)],?_];have lev :∀j,j0 L0 (gA k L0 (sp.take j)):=λj=>sW k _ hw0;refine jD (xs:=as.map V.ref) (λj σ Hc=>(∃z,σ = [some (.ref m),some (.ref sl),some (.int (cW L.w L.h sp:Nat)),z])/\Out a g bs H Hc/\dh Hc a g bl bs (gA k L0 (sp.take j)) nx/\ke (gA k L0 (sp.take j))) #[#[none,Z],oO,hL0,hd0] (λj σ Hc _ e=>aO.of (e.2.1 _ _ o1 o2 o3 FL)) (λj x σ Hc hx e=>?_) (λσ Hc e=>?_)
 ·obtain⟨⟨z,rfl⟩,eO,eL,eD⟩:=e
  obtain⟨sa,st,rfl,fk,Eu⟩:=JF hS hx;have adJ:=hwS st (aP fk);have hSc:=du.out hL (WF.LI hw) eO Eu;have Ew:=eO _ _ p1 p2 p3 hm;have nj:=Sz.trans (lev j);have FY:Sp.WF (gA k L0 (sp.take j)):=nj.wf hw;generalize hLj:gA k L0 (sp.take j)=Lj at *;obtain⟨bj,YR,fO,hBj⟩:=Paired.get eL.be zc;have wD:bj.number=be.number:=by
   have z:(Lj.beings.map (·.number))[ic]?=(L.beings.map (·.number))[ic]?:=by rw[nj.nums]
   rw[aA,aA,YR,oN] at z;exact bN.inj z
  have Xc:bV Lj t=true:=by rw[qV nj.w nj.h];exact il
  have Oj:On Hc m a g bl bs cR Lj nx bj t:=#[#[#[nX,Ew],#[fO,hBj]],eL,FY,yw FY (FY.ins bj (aP YR)),O.nt]
  obtain⟨DU,YQ⟩:=Ou FY YR t;have hk:(⟨bj.number,t⟩:iG)=k:=by show _=(#[be.number,t]:iG);rw[wD]
  rw[hk] at DU;have YS:gA k L0 (sp.take (j+1))=if J7 Lj k st=false then Lj else EL Lj k st (kD Lj ⟨bj.at_,bj.side,t⟩ st.area):=by
   rw[bW,fk];show gA k L0 (sp.take j++[st])=_;rw[DV,hLj,EM,DU]
  have yj:ke (gA k L0 (sp.take (j+1))):=by
   rw[bW,fk];show ke (gA k L0 (sp.take j++[st]));rw[DV,hLj];exact JN FY eD k st (by rw[DU];exact Xc)
  have go :∀H1,bo Hc H1->J7 Lj k st=true->Bo (E8 (F0) E0 (eM (bR 0) (eM (bR 3) lO))) { nx:=λσ Hc=>(∃z,σ = [some (.ref m),some (.ref sl),some (.int (cW L.w L.h sp:Nat)),z])/\Out a g bs H Hc/\dh Hc a g bl bs (gA k L0 (sp.take (j+1))) nx/\ke (gA k L0 (sp.take (j+1))),rt:=Q } [some (.ref m),some (.ref sl),some (.int (cW L.w L.h sp:Nat)),some (.ref sa)] H1:=λH1 s1 hg=>by
   refine#[_,Z,_,Z,m,sa,a,g,bl,cR,bs,Lj,nx,ic,bj,t,st,Z,Oj.same s1,eD,zc,YR,Xc,du.same s1 hSc,adJ,λH2 oo ll=>#[#[_,Z],eO.trans ((Out.same s1).trans oo),?_,yj]];rw[YS,if_neg (by rw[hg];simp),<- hk];exact ll
  obtain⟨dxs,pa,wv,Ex,_,rF⟩:=id hSc;refine#[_,Z,sa,_,dxs,_,_,Z,Ex,Y.bI.cl,Y.iE,Z,_,Z,?_];cases JO:st.cond with
  | none=>
   rw[JO] at rF;cases rF;refine cF (go Hc (same_refl Hc) ?_);unfold J7;rw[JO]
  | some YT=>
   rw[JO] at rF;obtain⟨p',rfl,UL⟩:=rF;obtain⟨wc,lc⟩:=adJ.cond YT JO;refine cH ?_;refine#[_,Z,sa,_,dxs,_,_,Z,Ex,Y.bI.cl,Y.iE,Z,_,Z,p',m,a,g,bl,bs,cR,Lj,nx,bj,t,YT,Z,UL,wc,by lia,Oj,eD,λH1 q1 s1 n1 e1=>?_];refine#[q1,_,Z,aO.of e1,_,Z,?_];have hg:(mask Lj (has Lj ⟨bj.at_,bj.side,t⟩ YT)).any id=J7 Lj k st:=by
    unfold J7;rw[JO,Xb FY,DU];show _ = !(kD Lj #[bj.at_,bj.side,t] YT).isEmpty;rw[jd FY.lZ (m:=#[bj.at_,bj.side,t]) Xc]
   rw[hg];refine bE (λc=>?_) (λc=>?_)
   ·exact go H1 s1 c
   refine#[#[_,Z],eO.trans (Out.same s1),?_,yj];rw[YS,if_pos (cD.mpr c)];exact eL.same s1
 obtain⟨⟨z,rfl⟩,eO,eL,eD⟩:=e;rw[ai,mh,cq] at eL;have Ew:=eO _ _ p1 p2 p3 hm;have nj:=Sz.trans (sW k sp hw0);refine#[_,Z,m,_,nX,_,_,Z,Ew,Y.bZ.cl,Y.ft,Z,a,g,bl,bs,_,nx,Z,eL,nj.wf hw,λH' AQ AS nb oo sub ll=>?_];exact q H' AQ AS (Nh eL eO nb) (eO.trans oo) sub ll
inductive DW (vs:List V) (H:Hp) (Q:VK) (_:XK):Prop where
 | mk (x dx:Addr) (v0 v1 v2:V) (_:vs=[.ref x,v0,v1,v2]) (_:H x=some (.ins T.aM.C dx [])) (_ :∀H' bl,H bl=none->H' x=some (.ins T.aM.C dx (gc v0 v1 v2 (.ref bl) (.int 1)))->H' bl=some (.lst [])->(∀b,b≠x->b≠bl->H' b=H b)->Q .cj H')
def SA:wu aL 1 T.aM (DW):=by
 refine Y.aM.F.run Md λbx A outer s H vs Q E hr h=>?_;obtain⟨x,dx,v0,v1,v2,rfl,hx,q⟩:=h;refine#[_,(aj (eR (aa 0) (aa 1)) (aj (eR (aa 0) (aa 2)) (aj (eR (aa 0) (aa 3)) (aj (eR (aa 0) (cO ao)) (aq (eR (aa 0) bL)))))),?_];refine#[_,Z,_,Z,x,_,dx,_,Z,hx,Y.aM.cl,Y.dW,ag rfl,?_];refine#[_,Z,_,Z,x,_,dx,_,Z,ah,Y.aM.cl,Y.iM,ag rfl,?_];refine#[_,Z,_,Z,x,_,dx,_,Z,ah,Y.aM.cl,Y.dD,ag rfl,?_];refine#[bK _,λbl JP=>?_];have cG:x≠bl:=λe=>by rw[<- e,ah] at JP;cases JP
 refine#[_,Z,x,_,dx,_,Z,by rw[au cG];exact ah,Y.aM.cl,Y.dE,ag rfl,?_];refine#[_,Z,x,_,dx,_,Z,ah,Y.aM.cl,Y.gf,ag rfl,?_];refine q _ bl ?_ ah ?_ λb h1 h2=>?_
 ·rw[au (Ne.symm cG),au (Ne.symm cG),au (Ne.symm cG)] at JP
  exact JP
 ·rw[au (Ne.symm cG),au (Ne.symm cG),ah]
 rw[au h1,au h1,au h2,au h1,au h1,au h1]
inductive U6 (vs:List V) (H:Hp) (Q:VK) (_:XK):Prop where
 | mk (b:Addr) (s:aU) (_:vs=[.ref b]) (_:Ck H b s) (_ :∀H' x,bo H H'->H x=none->Ck H' x s->Q (.ref x) H')
def adK (pP:wu aL 1 T.aR (yO)):aK aL 3 T.lA (U6):=by
 refine Y.lA.F.run HW λbx A outer s H vs Q E hr h=>?_;obtain⟨b,st,rfl,⟨fO,hB⟩,q⟩:=h;refine#[_,(aq (aD (vU Y.aR.ug Y.aR.b Y.aR.m pP (hr.le rfl) aG (ae (aW (aa 0)) (ae (aW (aa 0)) (ae (aW (aa 0)) (ae (aW (aa 0)) (ae (aW (aa 0)) (ae (aW (aa 0)) (ae (aW (aa 0)) ao)))))))))),?_];refine⟨_,Z,b,_,fO,_,_,Z,hB,Y.aR.cl,Y.gW,Z,_,Z,b,_,fO,_,_,Z,hB,Y.aR.cl,Y.fq,Z,_,Z,b,_,fO,_,_,Z,hB,Y.aR.cl,Y.fS,Z,_,Z,b,_,fO,_,_,Z,hB,Y.aR.cl,Y.gP,Z,
  _,Z,b,_,fO,_,_,Z,hB,Y.aR.cl,Y.pK,Z,_,Z,b,_,fO,_,_,Z,hB,Y.aR.cl,Y.mL,Z,_,Z,b,_,fO,_,_,Z,hB,Y.aR.cl,Y.mM,Z,λx dx hx iV cG=>?_⟩
 refine#[x,dx,_,_,_,_,_,_,_,Z,ah,Z,?_];rw[ij];exact q _ x (jv hx iV cG _ _) hx #[dx,ah]
inductive U7 (vs:List V) (H:Hp) (Q:VK) (_:XK):Prop where
 | mk (a g bl:Addr) (bs:List Addr) (L:aE) (nx:Nat) (_:vs=[.ref a]) (_:dh H a g bl bs L nx) (_:L.ground.length<=1000) (_:L.beings.length<=1000) (_ :∀H' a' g' AQ AS,bo H H'->H a'=none->H g'=none->H AQ=none->(∀b∈AS,H b=none)->dh H' a' g' AQ AS L nx->Q (.ref a') H')
def adL (pQ:wu aL 1 T.aM (DW)) (wF:aK aL 3 T.lA (U6)) :
  aK aL 4 T.lB (U7):=by
 refine Y.lB.F.run qx λbx A outer s H vs Q E hr h=>?_;obtain⟨a,g,bl,bs,L,nx,rfl,hL,hgl,JP,q⟩:=h;obtain⟨ez,ha⟩:=hL.lv;have eP:bs.length=L.beings.length:=hL.be.length;refine#[_,(aj (aZ 1 qx.nd (vU Y.aM.ug Y.aM.b Y.aM.m pQ (hr.le rfl) aG (ae (aW (aa 0)) (ae (aW (aa 0)) (ae (acI Y.acW (aW (aa 0))) ao))))) (aj (eR (aa 1) (lP [("being",2)] rfl qx.nd (fo (aW (aa 0))) (dJ rfl) (λ_ _ _ _ _=>(gu 2 qx.nd)) (λ_ _ _ _ _=>gO) (λ_ _ _ _ _=>(aJ Y.lA wF (hr.le rfl) aG (ae (aa 2) ao))))) (aj (eR (aa 1) (aW (aa 0))) (aq (aD (aa 1)))))),?_];refine#[_,Z,a,_,ez,_,_,Z,ha,Y.aM.cl,Y.dW,Z,_,Z,a,_,ez,_,_,Z,ha,Y.aM.cl,Y.iM,Z,_,Z,a,_,ez,_,_,Z,ha,Y.aM.cl,Y.dD,Z,g,_,Z,.inl (aO.of hL.gr),λg' hg'=>?_];intro x dx hx iV cG;refine#[x,dx,_,_,_,Z,ah,λH1 b0 n0 e1 e2 e3=>#[Z,?_]];have sG:=aT hg' (.lst (vi L.ground));have hxg:x≠g':=λe=>by rw[e,ah] at hx;cases hx
 have s1:bo (aX H g' (.lst (vi L.ground))) H1:=λb o hb=>by
  have z:=jv hx iV cG (.own x) (.ins T.aM.C dx []) b o hb;rw[e3 b (aI hb hx) (aI z n0)];exact z
 have YU:bo H H1:=sG.trans s1;have YV:H x=none:=sG.free hx;have hg1:H1 g'=some (.lst (vi L.ground)):=s1 _ _ ah;have tN:=hL.same YU;obtain⟨oS,yu⟩:=tN.lv;have hxa:x≠a:=λe=>by rw[e,ha] at YV;cases YV
 refine#[_,Z,a,_,oS,_,_,Z,yu,Y.aM.cl,Y.dE,Z,bl,Z,#[_,aO.of tN.bl],λD hD=>?_];have hDx:D≠x:=λe=>by rw[e,e1] at hD;cases hD
 refine qX (xs:=bs.map V.ref) (λi H'=>bo H1 H'/\∃cs,H' D=some (.lst (cs.map V.ref))/\Gx H' cs (L.beings.take i)/\∀c∈cs,H1 c=none) #[aT hD _,[],ah,.nil,(λc hc=>by cases hc)] (λi H' _ e=>aO.of (e.1 _ _ tN.bl)) (λi v H' hv e=>?_) (λH2 e=>?_)
 ·obtain⟨sc,cs,eD,eB,eN⟩:=e
  obtain⟨b,st,fO,rfl,hb,hs,hB⟩:=wB (tN.be.same sc) hv;have Lc:cs.length<=1000:=by
   have:=eB.length;rw[bJ] at this
   lia
  refine#[Z,xD ?_];refine#[_,Z,b,st,Z,#[fO,hB],λH3 y s3 n3 hY=>?_];refine#[_,s3 _ _ eD,by rw[ai];show _ < 2 ^ 24;lia,λb' o' fW=>?_,cs++[y],by rw[ah,br];rfl,?_,λc hc=>?_]
  ·rw[au (aI fW hD)];exact s3 _ _ (sc _ _ fW)
  ·rw[bW,hs]
   have up :∀c s,Ck H3 c s->Ck (aX H3 D (.lst (cs.map V.ref++[.ref y]))) c s:=λc s #[dx,z]=>#[dx,by rw[au (cN z (s3 _ _ eD) (by intro q;cases q))];exact z]
   exact Paired.app (Paired.imp up (eB.same s3)) (.cons (up _ _ hY) .nil)
  rcases eY.mp hc with h | h
  ·exact eN c h
  rw[fu.mp h];exact sc.free n3
 obtain⟨s2,cs,eD,eB,eN⟩:=e;rw[ai,eP,cq] at eB;have GV:=s2 _ _ e1;have Ly:=tN.same s2;obtain⟨qQ,JC⟩:=Ly.lv;refine#[_,Z,x,_,dx,_,Z,GV,Y.aM.cl,Y.dE,by show 5 < 1000;decide,?_];rw[As];refine#[_,Z,a,_,qQ,_,_,Z,by rw[au (Ne.symm hxa)];exact JC,Y.aM.cl,Y.gf,Z,_,Z,x,_,dx,_,Z,ah,Y.aM.cl,Y.gf,by show 5 < 1000;decide,?_];rw[vd,ij];have hxc :∀c s,Ck H2 c s->c≠x:=λc s #[nW,z]=>cN z GV (λq=>absurd (congrArg dA (HO.ins.inj q).2.2) (by simp[gc,wA,jS]));refine#[_,Z,q _ x g' D cs (λb o hb=>?_) YV hg' (YU.free hD) (λc hc=>YU.free (eN c hc)) #[#[dx,ah],?_,?_,?_]]
 ·rw[au (aI hb YV)];exact s2 _ _ (YU _ _ hb)
 ·rw[au (Ne.symm hxg)];exact s2 _ _ hg1
 ·rw[au hDx];exact eD
 exact Paired.imp (λc s z=>let⟨nW,zz⟩:=z;#[nW,by rw[au (hxc c s z)];exact zz]) eB
theorem jw (l:List Int):(vI l).length=l.length:=ai _
def AU (a b:List Int):vI (a++b)=vI a++vI b:=by unfold vI;rw[br]
def jJ (L:aE) (b:aU):Bool:=match bM L b.number with
 | some a=>!(a.at_ == b.at_&&a.life == b.life)
 | none=>true
def tD (b:aU):List Int:=[(b.number:Int),b.at_.1,b.at_.2,b.life]
def um (l:List Int) (H:Hp) (Q:VK):Prop:=∀H' q,bo H H'->H q=none->H' q=some (.lst (vI l))->Q (.ref q) H'
inductive U8 (vs:List V) (H:Hp) (Q:VK) (_:XK):Prop where
 | mk (a g bl a2 g2 wG:Addr) (bs yx:List Addr) (L M:aE) (nx JQ:Nat) (_:vs=[.ref a,.ref a2]) (_:dh H a g bl bs L nx) (_:dh H a2 g2 wG yx M JQ) (_:M.beings.length<=8) (_:(∀b∈M.beings,∃x,bM L b.number=some x)) (_:um ((M.beings.filter (jJ L)).flatMap tD) H Q)
def adM (c9:aK aL 1 T.ck (uk)):aK aL 2 T.kn (U8):=by
 refine Y.kn.F.run oY λbx A outer s H vs Q E hr h=>?_;obtain⟨a,g,bl,a2,g2,wG,bs,yx,L,M,nx,JQ,rfl,hL,hM,h8,hN,q⟩:=h;refine#[_,(aj (aZ 2 oY.nd (cO ao)) (aj (kJ PassesOwn.never rfl (fo (aW (aa 1))) (gu 3 oY.nd) (aj (aZ 4 oY.nd (eQ Y.ck Y.aM.cl c9 (hr.le rfl) aG (aa 0) (ae (aW (aa 3)) ao))) (aq (bG (qK (w_or (Ab (aW (aa 3)) (aW (aa 4))) (w_or (Ab (aW (aa 3)) (aW (aa 4))) (oX (Ab (aW (aa 3)) (aW (aa 4))))))) (aq (dC (DE (aa 2) (cO (ae (aW (aa 3)) (ae (aW (aa 3)) (ae (aW (aa 3)) (ae (aW (aa 3)) ao)))))))) bp)))) (aq (aD (aa 2))))),?_];have eP:yx.length=M.beings.length:=hM.be.length;refine#[bK _,λD hD=>?_];have sD:=aT hD (.lst []);obtain⟨dx0,ha0⟩:=(hM.same sD).lv;refine#[_,Z,a2,_,dx0,_,_,Z,ha0,Y.aM.cl,Y.dE,Z,wG,Z,#[_,aO.of (hM.same sD).bl],?_];refine jD (xs:=yx.map V.ref) (λi σ Hc=>(∃z1 z2,σ = [some (.ref a),some (.ref a2),some (.ref D),z1,z2])/\bo H Hc/\Hc D=some (.lst (vI (((M.beings.take i).filter (jJ L)).flatMap tD)))) #[#[none,none,Z],sD,ah] (λi σ Hc _ e=>aO.of (hM.same e.2.1).bl) (λi x σ Hc hx e=>?_) (λσ Hc e=>?_)
 ·obtain⟨⟨z1,z2,rfl⟩,sc,eD⟩:=e
  have Q0:=hL.same sc;obtain⟨FW,mh⟩:=Q0.lv;obtain⟨b,s,fO,rfl,hb,hs,hB⟩:=wB (hM.be.same sc) hx;obtain⟨old,hold⟩:=hN s (aP hs);refine#[_,Z,a,FW,_,Z,mh,j7,_,Z,b,_,fO,_,_,Z,hB,Y.aR.cl,Y.gW,Z,a,g,bl,bs,L,nx,s.number,Z,Q0,λj ob os T3 YC hf=>?_,λhf=>?_]
  ·have e0:os=old:=by
    have hold:L.beings.find? (λx=>x.number == s.number)=some old:=hold;rw[hold] at hf;exact(bN.inj hf).symm
   subst e0;obtain⟨K4,adN,YW,hO⟩:=Paired.get Q0.be T3;rw[YC] at adN;cases adN;have mv:jJ L s = !(os.at_ == s.at_&&os.life == s.life):=by
    unfold jJ;rw[hold]
   have take:M.beings.take (i+1)=M.beings.take i++[s]:=by rw[bW,hs];rfl
   have lim:(((M.beings.take i).filter (jJ L)).flatMap tD).length<=32:=by
    have l1:=cY (jJ L) (M.beings.take i);rw[bJ] at l1;rw[jb];have z:=yt (l:=((M.beings.take i).filter (jJ L)).map λb=>(tD b).length) (n:=4) (λx hx=>by obtain⟨y,_,rfl⟩:=bX.mp hx;exact aN 4);rw[ai] at z
    lia
   have yes:jJ L s=true->Bo (Ws K (bR 2) (VZ (eM (jf K (bR 3) "number") (eM (jf K (bR 3) "x") (eM (jf K (bR 3) "y") (eM (jf K (bR 3) "life") lO)))))) { nx:=λσ Hc=>(∃z1 z2,σ = [some (.ref a),some (.ref a2),some (.ref D),z1,z2])/\bo H Hc/\Hc D=some (.lst (vI (((M.beings.take (i+1)).filter (jJ L)).flatMap tD))),rt:=Q } [some (.ref a),some (.ref a2),some (.ref D),some (.ref b),some (.ref ob)] Hc:=λhy=>by
    refine#[_,Z,.inl #[Z,_,aO.of eD],_,Z,b,_,fO,_,_,Z,hB,Y.aR.cl,Y.gW,Z,_,Z,b,_,fO,_,_,Z,hB,Y.aR.cl,Y.fq,Z,_,Z,b,_,fO,_,_,Z,hB,Y.aR.cl,Y.fS,Z,_,Z,b,_,fO,_,_,Z,hB,Y.aR.cl,Y.gP,Z,fB 4,λq2 wH=>?_];have sN:=aT wH (.lst (vI (tD s)));refine#[D,q2,_,_,Z,Z,sN _ _ eD,ah,?_,#[_,_,Z],λb' o' fW=>?_,?_]
    ·rw[jw];exact sz (by show _+4<=_;lia)
    ·rw[au (aI fW hD)];exact sN _ _ (sc _ _ fW)
    rw[ah,take,dI,kg,AU,cK,if_pos hy,lJ,oM];rfl
   have no:jJ L s=false->Hc D=some (.lst (vI (((M.beings.take (i+1)).filter (jJ L)).flatMap tD))):=λhy=>by
    rw[eD,take,dI,cK,hy,if_neg (by simp),lJ,b5]
   have fx :∀(Q':Bool->Hp->Prop),Q' (!decide (V.int s.at_.1=V.int os.at_.1)) Hc->oV (gI X4 (jf K (bR 3) "x") (jf K (bR 4) "x")) [some (.ref a),some (.ref a2),some (.ref D),some (.ref b),some (.ref ob)] Hc Q':=λQ' z=>#[_,Z,b,_,fO,_,_,Z,hB,Y.aR.cl,Y.fq,Z,_,Z,ob,_,YW,_,_,Z,hO,Y.aR.cl,Y.fq,Z,Z,_,Z,z]
   refine#[_,Z,b,_,fO,_,_,Z,hB,Y.aR.cl,Y.fq,Z,_,Z,ob,_,YW,_,_,Z,hO,Y.aR.cl,Y.fq,Z,Z,_,Z,bE (λc=>?_) (λc=>?_)]
   ·refine cF (yes ?_)
    rw[mv,fM,Bool.and_eq_false_iff];left;rw[<- dz];intro z;have:=((AI _ _).mp z).1;rw[this] at c;simp at c
   have c1:s.at_.1=os.at_.1:=by
    cases e:decide (V.int s.at_.1=V.int os.at_.1) with
    | true=>exact V.int.inj (of_decide_eq_true e)
    | false=>exact absurd (by rw[e];rfl) c
   refine#[_,Z,b,_,fO,_,_,Z,hB,Y.aR.cl,Y.fS,Z,_,Z,ob,_,YW,_,_,Z,hO,Y.aR.cl,Y.fS,Z,Z,_,Z,bE (λc=>?_) (λc=>?_)]
   ·refine cF (yes ?_)
    rw[mv,fM,Bool.and_eq_false_iff];left;rw[<- dz];intro z;have:=((AI _ _).mp z).2;rw[this] at c;simp at c
   have c2:s.at_.2=os.at_.2:=by
    cases e:decide (V.int s.at_.2=V.int os.at_.2) with
    | true=>exact V.int.inj (of_decide_eq_true e)
    | false=>exact absurd (by rw[e];rfl) c
   have Dj:(os.at_ == s.at_)=true:=(AI _ _).mpr #[c1.symm,c2.symm];refine#[_,Z,b,_,fO,_,_,Z,hB,Y.aR.cl,Y.gP,Z,_,Z,ob,_,YW,_,_,Z,hO,Y.aR.cl,Y.gP,Z,Z,_,Z,bE (λc=>?_) (λc=>?_)]
   ·refine yes ?_
    rw[mv,Dj,cT,fM,beq_eq_false_iff_ne];intro z;rw[z] at c;simp at c
   refine#[#[_,_,Z],sc,no ?_];have c3:s.life=os.life:=by
    cases e:decide (V.int s.life=V.int os.life) with
    | true=>exact V.int.inj (of_decide_eq_true e)
    | false=>exact absurd (by rw[e];rfl) c
   rw[mv,Dj,cT,c3];simp
  have hold:L.beings.find? (λx=>x.number == s.number)=some old:=hold;rw[hold] at hf;cases hf
 obtain⟨⟨z1,z2,rfl⟩,sc,eD⟩:=e;rw[ai,eP,cq] at eD;exact#[_,Z,q Hc D sc hD eD]
inductive Q7 (vs:List V) (H:Hp) (Q:VK) (_:XK):Prop where
 | mk (a g bl a2 g2 wG:Addr) (bs yx:List Addr) (L M:aE) (nx JQ:Nat) (_:vs=[.ref a,.ref a2]) (_:dh H a g bl bs L nx) (_:dh H a2 g2 wG yx M JQ) (_:L.beings.length<=8) (_:um ((L.beings.filter λx=>(bM M x.number).isNone).map λx=>(x.number:Int)) H Q)
def aap (c9:aK aL 1 T.ck (uk)):aK aL 2 T.nh (Q7):=by
 refine Y.nh.F.run xw λbx A outer s H vs Q E hr h=>?_;obtain⟨a,g,bl,a2,g2,wG,bs,yx,L,M,nx,JQ,rfl,hL,hM,h8,q⟩:=h;refine#[_,(aq (aD (lP [("being",2)] rfl xw.nd (fo (aW (aa 0))) (dJ rfl) (λ_ _ _ _ _=>(gu 2 xw.nd)) (λ_ _ _ _ _=>(E9 (sX (eQ Y.ck Y.aM.cl c9 (hr.le rfl) aG (aa 1) (ae (aW (aa 2)) ao))))) (λ_ _ _ _ _=>(aW (aa 2)))))),?_];have eP:bs.length=L.beings.length:=hL.be.length;obtain⟨ez,ha⟩:=hL.lv;refine#[_,Z,a,_,ez,_,_,Z,ha,Y.aM.cl,Y.dE,Z,bl,Z,#[_,aO.of hL.bl],λD hD=>?_];refine qX (xs:=bs.map V.ref) (λi H'=>bo H H'/\H' D=some (.lst (vI (((L.beings.take i).filter λx=>(bM M x.number).isNone).map λx=>(x.number:Int))))) #[aT hD _,ah] (λi H' _ e=>aO.of (e.1 _ _ hL.bl)) (λi x H' hx e=>?_) (λH' e=>?_)
 ·obtain⟨sc,eD⟩:=e
  have hMc:=hM.same sc;obtain⟨qQ,JC⟩:=hMc.lv;obtain⟨b,s,fO,rfl,hb,hs,hB⟩:=wB (hL.be.same sc) hx;have take:L.beings.take (i+1)=L.beings.take i++[s]:=by rw[bW,hs];rfl
  refine#[Z,?_];refine#[_,Z,a2,qQ,_,Z,JC,j7,_,Z,b,_,fO,_,_,Z,hB,Y.aR.cl,Y.gW,Z,a2,g2,wG,yx,M,JQ,s.number,Z,hMc,λj ob os T3 YC hf=>?_,λhf=>?_]
  ·refine#[_,Z,cH #[sc,?_]]
   have hf':(bM M s.number).isNone=false:=by
    unfold bM;rw[hf];rfl
   rw[eD,take,dI,cK,hf',if_neg (by simp),lJ,b5]
  have hf':(bM M s.number).isNone=true:=by
   unfold bM;rw[hf];rfl
  refine#[_,Z,cF #[_,Z,b,_,fO,_,_,Z,hB,Y.aR.cl,Y.gW,Z,_,eD,?_,λb' o' fW=>?_,?_]]
  ·have l1:=cY (λx:aU=>(bM M x.number).isNone) (L.beings.take i)
   rw[bJ] at l1;rw[jw,ai];show _ < 2 ^ 24
   lia
  ·rw[au (aI fW hD)];exact sc _ _ fW
  rw[ah,take,dI,br,AU,cK,hf',if_pos rfl];rfl
 refine q H' D e.1 hD ?_;rw[e.2,ai,eP,cq]
inductive U9 (vs:List V) (H:Hp) (Q:VK) (_:XK):Prop where
 | mk (a g bl a2 g2 wG:Addr) (bs yx:List Addr) (L M:aE) (nx JQ:Nat) (_:vs=[.ref a,.ref a2]) (_:dh H a g bl bs L nx) (_:dh H a2 g2 wG yx M JQ) (_:L.ground.length=M.ground.length) (_:L.ground.length<=1000) (_ :∀H',bo H H'->Q (.int (((L.ground.zip M.ground).filter λx=>x.1 != x.2).length:Nat)) H')
theorem LL :∀(l m:List Nat),l.length=m.length->((ba l.length).filter λi=>l.getD i 0 != m.getD i 0).length=((l.zip m).filter λx=>x.1 != x.2).length
 | [],[],_=>rfl
 | a::l,b::m,h=>by
  have ih:=LL l m (by simpa using h);rw[aV,kN,cK,List.zip_cons_cons,cK,BN];have e:((λi=>(a::l).getD i 0 != (b::m).getD i 0) ∘ OV)=λi=>l.getD i 0 != m.getD i 0:=by
   funext i;simp[List.getD_cons_succ]
  rw[e];show(if(a != b)=true then _ else _:List Nat).length=(if(a != b)=true then _ else _:List (Nat × Nat)).length;split
  ·rw[aV,aV,ai,ih]
  rw[ai,ih]
 | [],_::_,h=>by simp at h
 | _::_,[],h=>by simp at h
def adP:aK aL 1 T.lz (U9):=by
 refine Y.lz.F.run uL λbx A outer s H vs Q E hr h=>?_;obtain⟨a,g,bl,a2,g2,wG,bs,yx,L,M,nx,JQ,rfl,hL,hM,eP,hl,q⟩:=h;refine#[_,(aq (aD (ir Y.iu (lP [("cell",2)] rfl uL.nd (nR Y.i8 (ir Y.iu (aW (aa 0)))) (dJ rfl) (λ_ _ _ _ _=>(gu 2 uL.nd)) (λ_ _ _ _ _=>(E9 (Ab (bU (aW (aa 0)) (aa 2)) (bU (aW (aa 1)) (aa 2))))) (λ_ _ _ _ _=>(aa 2)))))),?_];obtain⟨ez,ha⟩:=hL.lv;refine#[_,Z,a,_,ez,_,_,Z,ha,Y.aM.cl,Y.dD,Z,g,vi L.ground,Z,.inl (aO.of hL.gr),_,Z,by lia,by rw[iz];lia,λD hD=>?_];rw[iz,cg];refine WX (λi=>L.ground.getD i 0 != M.ground.getD i 0) (λi=>.int ((i:Nat):Int)) (by lia) hD (λi Hc Q' hi sc q'=>?_) (λi Hc Q' hi _ sc q'=>#[_,Z,q' Hc (same_refl Hc)]) (λH1 s1 e1=>?_)
 ·obtain⟨oS,yu⟩:=(hL.same sc).lv
  obtain⟨qQ,JC⟩:=(hM.same sc).lv;have h1:L.ground[i]?=some (L.ground.getD i 0):=by rw[bY,aw hi];rfl
  have h2:M.ground[i]?=some (M.ground.getD i 0):=by rw[bY,aw (show i < M.ground.length by lia)];rfl
  refine#[_,Z,a,_,oS,_,_,Z,yu,Y.aM.cl,Y.dD,Z,_,Z,g,vi L.ground,_,_,Z,Z,aO.of (hL.same sc).gr,qD h1,_,Z,a2,_,qQ,_,_,Z,JC,Y.aM.cl,Y.dD,Z,_,Z,g2,vi M.ground,_,_,Z,Z,aO.of (hM.same sc).gr,qD h2,Z,_,Z,?_];have et:(!decide (V.int (L.ground.getD i 0:Nat)=V.int (M.ground.getD i 0:Nat)))=(L.ground.getD i 0 != M.ground.getD i 0):=by
   apply fX;simp only[fM,decide_eq_false_iff_not,bne_iff_ne,V.int.injEq]
   lia
  rw[et];exact q' Hc (same_refl Hc)
 refine#[D,_,Z,.inl (aO.of e1),?_];rw[ai,LL _ _ eP];exact q H1 s1
inductive KD (vs:List V) (H:Hp) (Q:VK) (_:XK):Prop where
 | mk (p:Addr) (b:List Nat) (_:vs=[.ref p]) (_:H p=some (.lst (vi b))) (_:b.length<=999) (_:match gM b with | .ok sp=>∀H' q as,bo H H'->H q=none->H' q=some (.lst (as.map V.ref))->hZ H' as sp->Q (.ref q) H' | .error _=>∀H',bo H H'->Q .cj H')
def aaq (pR:aK (gC P w) 47 T.kY (Ic)):aK aL 48 T.nT (KD):=by
 refine Y.nT.F.run Pb λbx A outer s H vs Q E hr h=>?_;obtain⟨p,b,rfl,hp,hl,q⟩:=h;refine#[_,(aq (Ud Y.nB rfl rfl Y.vm Y.kY pR (hr.le rfl) (ae (aa 0) ao) (λ_=>(aq (aD Lk))))),?_];refine#[_,Z,p,b,Z,hp,hl,?_];cases e:gM b with
 | ok sp=>
  rw[e] at q;exact λH' q' as h1 h2 h3 h4=>q H' q' as h1 h2 h3 h4
 | error z=>
  rw[e] at q;exact λdx H' s1 _=>#[Z,q H' s1]
inductive KG (vs:List V) (H:Hp) (Q:VK) (_:XK):Prop where
 | mk (p:Addr) (b:List Nat) (_:vs=[.ref p]) (_:H p=some (.lst (vi b))) (_:b.length<=999) (_:match eZ b with | .ok a=>∀H' q,bo H H'->H q=none->gK H' q (aQ a)->Q (.ref q) H' | .error _=>∀H',bo H H'->Q .cj H')
def aar (uS:aK (gC P w) 46 T.kq (Qw)):aK aL 47 T.qi (KG):=by
 refine Y.qi.F.run R8 λbx A outer s H vs Q E hr h=>?_;obtain⟨p,b,rfl,hp,hl,q⟩:=h;refine#[_,(aq (Ud Y.nB rfl rfl Y.vm Y.kq uS (hr.le rfl) (ae (aa 0) ao) (λ_=>(aq (aD Lk))))),?_];refine#[_,Z,p,b,Z,hp,hl,?_];cases e:eZ b with
 | ok a=>
  rw[e] at q;exact λH' q' h1 h2 h3=>q H' q' h1 h2 h3
 | error z=>
  rw[e] at q;exact λdx H' s1 _=>#[Z,q H' s1]
inductive AV (vs:List V) (H:Hp) (Q:VK) (_:XK):Prop where
 | mk (p:Addr) (l:List Int) (_:vs=[.ref p]) (_:H p=some (.lst (vI l))) (_:l.length<=10000000) (_:um (bT l) H Q)
def adQ:aK aL 1 T.iy (AV):=by
 refine Y.iy.F.run Ui λbx A outer s H vs Q E hr h=>?_;obtain⟨p,l,rfl,hp,hl,q⟩:=h;refine#[_,(aq (aD (l8 (cO (ae (ir Y.iu (aa 0)) ao)) (aa 0)))),?_];refine#[_,Z,p,_,Z,.inl (aO.of hp),fB 1,λq1 de=>?_];have s1:=aT de (.lst [V.int ((vI l).length:Nat)]);refine#[_,Z,q1,p,_,_,Z,Z,ah,s1 _ _ hp,?_,λq2 wH=>?_]
 ·rw[jw];show 1+l.length<=2 ^ 24;lia
 refine q _ q2 (s1.trans (aT wH _)) (s1.free wH) ?_;rw[ah,jw];rfl
def Ey (i:Sp.Itm):PyData:=.tuple [.str (sb (mG i)),.int (Cv i:Nat)]
def Q8 (l:List Sp.Itm):PyData:=.list (l.map Ey)
theorem Va :∀{as:List Addr} {l:List Sp.Itm},eV H as l->Du K H (as.map V.ref) (l.map Ey)
 | _,_,.nil=>.nil
 | _,_,.cons h r=>.cons (.tup (gN.of h) (.cons (.str _) (.cons (.int _) .nil))) (Va r)
def zD (h:gK H p l):Dp K H (.ref p) (Q8 l):=by
 obtain⟨as,h1,h2⟩:=h;exact .lst (aO.of h1) (Va h2)
def Xd (l:List Nat):Ge (sb l)=l.all λc=>decide (c < 1114112):=by
 unfold Ge sb;simp
def adR (h:nL i):Ge (sb (mG i))=true:=by
 rw[Xd];cases i with
 | no=>rfl
 | grow=>rfl
 | both=>rfl
 | either=>rfl
 | sim k n=>
  have hk:k < 16:=h.1;show(aF.getD k []).all (λc=>decide (c < 1114112))=true
  match k,hk with
  | 0,_ | 1,_ | 2,_ | 3,_ | 4,_ | 5,_ | 6,_ | 7,_ | 8,_ | 9,_ | 10,_ | 11,_ | 12,_ | 13,_ | 14,_ | 15,_=>rfl
  | j+16,h=>exact absurd h (by lia)
theorem Q9 :∀{l:List Sp.Itm},(∀i∈l,nL i)->oZ (l.map Ey)=true
 | [],_=>rfl
 | i::l,h=>by
  rw[cv,oZ.eq_2,Q9 (l:=l) λx hx=>h x (by simp[hx])];have z:=adR (h i (by simp));simp[Ey,PyData.canLay0,oZ,z]
theorem LM :∀(l:List Sp.Itm),wW (l.map Ey)<=1
 | []=>bK _
 | i::l=>by
  rw[cv,wW.eq_2];have z:(Ey i).depth=1:=by simp[Ey,PyData.depth,wW]
  have:=LM l
  lia
def nY (h :∀i∈l,nL i):pY (Q8 l)=true:=by
 unfold pY Q8;rw[PyData.canLay0.eq_5,Q9 h,PyData.depth.eq_1];have:=LM l;simp
 lia
def Vb (h:nL i) (k:nL j) (e:mG i=mG j) (n:Cv i=Cv j):i=j:=by
 have key :∀i:Sp.Itm,nL i->∃m,m < 20/\(["self","target","line","bolt","all","ball","ring","burst","wall","floor","water","ice","fire","beings","foes","friends","not","grow","&","|"].map bw)[m]?=some (mG i)/\i=(if m < 16 then Sp.Itm.sim m (Cv i) else if m=16 then .no else if m=17 then .grow else if m=18 then .both else .either):=by
  intro i hi;cases i with
  | no=>exact#[16,by decide,Z,Z]
  | grow=>exact#[17,by decide,Z,Z]
  | both=>exact#[18,by decide,Z,Z]
  | either=>exact#[19,by decide,Z,Z]
  | sim k n=>
   have hk:k < 16:=hi.1;refine#[k,by lia,?_,by rw[if_pos hk];rfl];show _=some (aF.getD k [])
   match k,hk with
   | 0,_ | 1,_ | 2,_ | 3,_ | 4,_ | 5,_ | 6,_ | 7,_ | 8,_ | 9,_ | 10,_ | 11,_ | 12,_ | 13,_ | 14,_ | 15,_=>rfl
   | j+16,h=>exact absurd h (by lia)
 obtain⟨a,a1,a2,a3⟩:=key i h;obtain⟨b,b1,b2,b3⟩:=key j k;rw[e,<- b2] at a2;have nd:(["self","target","line","bolt","all","ball","ring","burst","wall","floor","water","ice","fire","beings","foes","friends","not","grow","&","|"].map bw).Nodup:=by decide
 have MK:a=b:=by
  have l:(["self","target","line","bolt","all","ball","ring","burst","wall","floor","water","ice","fire","beings","foes","friends","not","grow","&","|"].map bw).length=20:=rfl;rw[aw (by rw[l];exact a1),aw (by rw[l];exact b1)] at a2;exact(mQ nd).mp (bN.inj a2)
 rw[a3,b3,MK,n]
def adS (h:nL i) (k:nL j):(Ey i).eqv (Ey j)=decide (i=j):=by
 unfold Ey;rw[zG.eq_8,nG.eq_2,nG.eq_2,nG.eq_1,zG.eq_6,zG.eq_5,ui,nF,ib,aB,decide_eq_true_iff,beq_iff_eq,beq_iff_eq];constructor
 ·rintro⟨h1,h2⟩
  exact Vb h k h1 (by lia)
 rintro rfl;exact#[Z,Z]
theorem Ra :∀{l r:List Sp.Itm},(∀i∈l,nL i)->(∀i∈r,nL i)->nG (l.map Ey) (r.map Ey)=decide (l=r)
 | [],[],_,_=>rfl
 | [],_::_,_,_=>by simp[nG]
 | _::_,[],_,_=>by simp[nG]
 | i::l,j::r,h,k=>by
  rw[cv,cv,nG.eq_2,adS (h i (by simp)) (k j (by simp)),Ra (l:=l) (r:=r) (λx hx=>h x (by simp[hx])) λx hx=>k x (by simp[hx])];rw[ib,aB,decide_eq_true_iff,decide_eq_true_iff,decide_eq_true_iff,vB.injEq]
def F3 (h :∀i∈l,nL i) (k :∀i∈r,nL i):(Q8 l).eqv (Q8 r)=decide (l=r):=by
 unfold Q8;rw[zG.eq_7,Ra h k]
structure Ar (H:Hp) (p:Addr) (a:bD):Prop where
 h:gK H p (aQ a)
 w:nJ a
 l:(aQ a).length<=1000
theorem Ar.same (h:Ar H p a) (s:bo H H'):Ar H' p a:=#[h.h.same s,h.w,h.l]
theorem Ar.wi (h:Ar H p a) :∀i∈aQ a,nL i:=j8 h.w
inductive DX (vs:List V) (H:Hp) (Q:VK) (_:XK):Prop where
 | mk (p:Addr) (a:bD) (_:vs=[.ref p]) (_:Ar H p a) (_ :∀H',bo H H'->Q (.bl (lj a)) H')
def Xe:aK aL 1 T.lT (DX):=by
 refine Y.lT.F.run Uh λbx A outer s H vs Q E hr h=>?_;obtain⟨p,a,rfl,hA,q⟩:=h;refine#[_,(aq (aD (afb hr.YD (aa 0) (cO (ae (nP (ae dB (ae bL ao))) ao))))),?_];refine#[_,Z,fB 2,λq1 de=>#[fB 1,λq2 wH=>?_]];have s1:=aT de (.tup [V.str ("all" : Str),V.int 0]);have s2:=aT wH (.lst [V.ref q1]);have hw :∀i∈[Sp.Itm.sim 4 0],nL i:=by intro i hi;rw[fu.mp hi];exact#[by decide,by decide,.inl rfl]
 have hB:gK (aX (aX H q1 (.tup [V.str ("all" : Str),V.int 0])) q2 (.lst [V.ref q1])) q2 [Sp.Itm.sim 4 0]:=#[[q1],ah,.cons (s2 _ _ ah) .nil]
 refine#[_,_,zD ((hA.same s1).same s2).h,zD hB,nY hA.wi,nY hw,?_];rw[F3 hA.wi hw,<- Y9];exact q _ (s1.trans s2)
inductive DY (vs:List V) (H:Hp) (Q:VK) (_:XK):Prop where
 | mk (p:Addr) (a b:bD) (op:Sp.Itm) (_:vs=[.ref p]) (_:gK H p (aQ a++(aQ b++[op]))) (_:nJ a) (_:nJ b) (_:(aQ a).length+(aQ b).length<=1000) (_ :∀H' q p1 p2,bo H H'->gK H' p1 (aQ a)->gK H' p2 (aQ b)->H' q=some (.lst [.ref p1,.ref p2])->Q (.ref q) H')
def adT (h:n<=xs.length):pd xs none (some (n:Nat))=xs.take n:=by
 unfold pd;rw[HT.xq,HT.Ds,jP h,Gb,pV]
def Vc (h:0 < n):HT.vO n d (some (-1))=n - 1:=by
 show(if(-1:Int) < 0 then((-1:Int)+(n:Int)).toNat else min (-1:Int).toNat n)=_;rw[if_pos (by decide)]
 lia
def adU (h:n < xs.length):pd xs (some (n:Nat)) (some (-1))=(xs.drop n).take (xs.length - 1 - n):=by
 unfold pd;rw[HT.xq,Vc (by lia),jP (by lia)]
def Xf (h:0 < xs.length):pd xs none (some (-1))=xs.take (xs.length - 1):=by
 unfold pd;rw[HT.Ds,Vc h,Gb,pV]
theorem BJ :∀{l r:List Sp.Itm} {as:List Addr},eV H as (l++r)->eV H (as.take l.length) l/\eV H (as.drop l.length) r
 | [],r,as,h=>#[.nil,h]
 | i::l,r,_,.cons h t=>by
  obtain⟨h1,h2⟩:=BJ (l:=l) t;exact#[.cons h h1,h2]
def SD:aK aL 1 T.jF (DY):=by
 refine Y.jF.F.run mI λbx A outer s H vs Q E hr h=>?_;obtain⟨p,a,b,op,rfl,⟨as,hp,hI⟩,wa,wb,hl,q⟩:=h;have hu:(rX aL P w K mg aS ["area","begin","wanted"] "last_operands" (ax vW) T.jF.f bx A outer s H E).D9.A.units+1 < cLine:=by
  have z:=hr.units;show(A.deeper _).units+1 < cLine
  lia
 refine#[_,(aj (aZ 1 mI.nd (kI (ir Y.iu (aa 0)) bL)) (aj (aZ 2 mI.nd bL) (aj (u9 PassesOwn.never (Kh (aa 2) bL) (aj (ac5 1 mI.nd bL) (aq (Fb 2 mI.nd (kI (Uc Y.zy hu (jE (bU (aa 0) (aa 1)) bL) bL) bL))))) (aq (aD (cO (ae (zu (aa 0) Jf (nQ (aa 1))) (ae (zu (aa 0) (nQ (aa 1)) (nQ (Bv bL))) ao)))))))),?_];have mh:as.length=(aQ a).length+((aQ b).length+1):=by
  have z:=hI.length;simpa using z
 have JA:(as.map V.ref).length=(aQ a).length+((aQ b).length+1):=by rw[ai];exact mh
 refine#[_,Z,p,_,Z,.inl (aO.of hp),_,_,Z,Z,?_];have e0:(((as.map V.ref).length:Nat):Int) - 1=(((aQ a).length+(aQ b).length:Nat):Int):=by rw[JA];lia
 refine#[λm σ Hc=>∃k:Nat,σ = [some (.ref p),some (.int (((aQ a).length+k:Nat):Int)),some (.int (1+fJ ((aQ b).drop k)))]/\Hc=H/\k<=(aQ b).length/\m=k,#[_,(aQ b).length,?_,Z,aN _,Z],?_]
 ·show [some (V.ref p),some (V.int ((((as.map V.ref).length:Nat):Int) - 1)),some (V.int 1)]=_
  rw[e0,Be];rfl
 rintro m σ Hc ⟨k,rfl,rfl,hk,em⟩;have nb:=uI b;refine#[_,Z,_,_,Z,Z,_,Z,bE (λc=>?_) (λc=>?_)]
 ·have c:=of_decide_eq_true c
  have TQ:0 < k:=by
   rcases Nat.eq_zero_or_pos k with z | z
   ·rw[z,pV,nb.1] at c;exact absurd c (by decide)
   exact z
  obtain⟨j,rfl⟩ :∃j,k=j+1:=#[k - 1,by lia]
  obtain⟨it,rG⟩ :∃it,(aQ b)[j]?=some it:=#[_,aw (by lia)]
  have hix:(aQ a++(aQ b++[op]))[(aQ a).length+j]?=some it:=by
   rw[qS (by lia),tP,rN (by lia)];exact rG
  obtain⟨ad,had⟩ :∃ad,as[(aQ a).length+j]?=some ad:=#[_,aw (by lia)]
  obtain⟨it',e1,hT⟩:=Paired.get hI had;rw[hix] at e1;cases e1;refine#[λσ' H'=>∃k':Nat,σ'=[some (.ref p),some (.int (((aQ a).length+k':Nat):Int)),some (.int (1+fJ ((aQ b).drop k')))]/\H'=Hc/\k'<=(aQ b).length/\k' < j+1,λσ' H' #[k',z1,z2,z3,z4]=>#[k',by lia,k',z1,z2,z3,Z],?_];refine#[_,Z,_,_,Z,Z,?_];have e9:(((aQ a).length+(j+1):Nat):Int) - 1=(((aQ a).length+j:Nat):Int):=by lia
  refine#[_,Z,_,Z,_,Z,p,_,_,V.ref ad,Z,Z,aO.of hp,(by show w8 (as.map V.ref) ((((aQ a).length+(j+1):Nat):Int) - 1)=_;rw[e9];exact b8 (j:=(aQ a).length+j) (by rw[aA,had];rfl)),ad,_,_,_,Z,Z,gN.of hT,b8 (j:=0) rfl,.inr (sb (mG it)),Z,?_];rw[show(qp Gv (.inr (sb (mG it)))).getD (.int 0)=.int (arity it:Nat) from Gw (j8 wb it (aP rG))];refine#[_,_,Z,Z,_,_,Z,Z,j,?_,Z,by lia,jo _];show [some (V.ref p),some (V.int ((((aQ a).length+(j+1):Nat):Int) - 1)),some (V.int (1+fJ ((aQ b).drop (j+1))+((arity it:Int) - 1)))]=_;rw[e9,S6 rG,show 1+fJ ((aQ b).drop (j+1))+((arity it:Int) - 1)=1+(((arity it:Int) - 1)+fJ ((aQ b).drop (j+1))) from by lia]
 have c:¬ (0 < 1+fJ ((aQ b).drop k)):=λz=>c (decide_eq_true z);have TQ:k=0:=by
  rcases Nat.eq_zero_or_pos k with z | z
  ·exact z
  have:=nb.2 k z;lia
 subst TQ;obtain⟨ha,LN⟩:=BJ hI;obtain⟨hb,_⟩:=BJ LN;refine#[_,Z,_,Z,_,Z,p,_,Z,aO.of hp,λq1 de=>?_];rw[A8,adT (by lia)];have s1:=aT de (.lst ((as.map V.ref).take (aQ a).length));refine#[_,Z,_,Z,_,Z,_,Z,_,Z,p,_,Z,aO.of (s1 _ _ hp),λq2 wH=>?_];rw[adU (by lia),JA,show(aQ a).length+((aQ b).length+1) - 1 - (aQ a).length=(aQ b).length from by lia];have s2:=aT wH (.lst (((as.map V.ref).drop (aQ a).length).take (aQ b).length));refine#[fB 2,λq3 HA=>?_];have s3:=aT HA (.lst [V.ref q1,V.ref q2]);refine q _ q3 q1 q2 (s1.trans (s2.trans s3)) ?_ ?_ ah
 ·refine#[as.take (aQ a).length,s3 _ _ (s2 _ _ ?_),ha.mono λb xs z=>s3 _ _ (s2 _ _ (s1 _ _ z))]
  rw[ah,lY]
 refine#[(as.drop (aQ a).length).take (aQ b).length,s3 _ _ ?_,hb.mono λb xs z=>s3 _ _ (s2 _ _ (s1 _ _ z))];rw[ah,lY,lX]
def x9:bD->Sp.Itm
 | .basic k n=>.sim k n
 | .no _=>.no
 | .grow _=>.grow
 | .both _ _=>.both
 | .either _ _=>.either
def KH:bD->List Sp.Itm
 | .basic _ _=>[]
 | .no a=>aQ a
 | .grow a=>aQ a
 | .both a b=>aQ a++aQ b
 | .either a b=>aQ a++aQ b
def DZ (a:bD):aQ a=KH a++[x9 a]:=by cases a <;> simp[aQ,KH,x9]
def Rb (h:nL i) (ho:arity op≠0):decide (V.str (sb (mG i))=V.str (sb (mG op)))=decide (i=op):=by
 have hw:nL op:=by cases op <;> first | trivial | exact absurd rfl ho
 rw[ib,decide_eq_true_iff,decide_eq_true_iff];constructor
 ·intro e
  have e:=FC (V.str.inj e);have a1:=Gw h;have a2:=Gw hw;rw[e,a2] at a1;have a3:(arity op:Int)=(arity i:Int):=V.int.inj a1;have n0 :∀j:Sp.Itm,arity j≠0->Cv j=0:=λj hj=>by cases j <;> first | rfl | exact absurd rfl hj
  exact Vb h hw e (by rw[n0 i (by lia),n0 op ho])
 rintro rfl;rfl
def Ar.last (h:Ar H p a) :∃as z,H p=some (.lst ((as++[z]).map V.ref))/\eV H as (KH a)/\NG H z (x9 a):=by
 obtain⟨as,h1,h2⟩:=h.h;rw[DZ] at h2;obtain⟨h3,h4⟩:=BJ h2;have hl:=h2.length;rw[ay] at hl;generalize hd:as.drop (KH a).length=ds at h4;cases h4 with
 | @cons z _ _ _ h5 h6=>
  cases h6;refine#[_,z,?_,h3,h5];rw[h1,<- hd,ip]
def LO:w8 ((as++[z]).map V.ref) (-1)=some (.ref z):=by
 rw[br];exact V4 _ _
theorem Ar.lw (h:Ar H p a):nL (x9 a):=h.wi _ (by rw[DZ];simp)
def jn:Sp.Itm->bD->bD->Bool
 | .either,.either c d,a=>i6 a c || i6 a d
 | .both,.both c d,a=>i6 a c || i6 a d
 | _,_,_=>false
def adV (h:x9 b≠op):jn op b a=false:=by
 cases op <;> cases b <;> first | rfl | exact absurd rfl h
def Rc (H:Hp) (ps:List Addr) (r:bD) (Q:VK):Prop:=∀H' q,bo H H'->(H q=none\/q∈ps)->gK H' q (aQ r)->Q (.ref q) H'
theorem Ow (e:H p=some (.lst xs)) (hx:xs=(as++bs).map V.ref) (h1:eV H as l) (h2:eV H bs r):gK H p (l++r):=#[as++bs,by rw[e,hx],Paired.app h1 h2]
inductive Il (vs:List V) (H:Hp) (Q:VK) (_:XK):Prop where
 | mk (p p2:Addr) (a b:bD) (op:Sp.Itm) (_:vs=[.ref p,.str (sb (mG op)),.ref p2]) (_:Ar H p b) (_:Ar H p2 a) (_:arity op=2) (_ :∀H',bo H H'->Q (.bl (jn op b a)) H')
def Xg (wI:aK aL 1 T.jF (DY)):aK aL 2 T.vj (Il):=by
 refine Y.vj.F.run Wu λbx A outer s H vs Q E hr h=>?_;obtain⟨p,p2,a,b,op,rfl,hB,hA,ho,q⟩:=h;refine#[_,(aq (aD (vS (HP (jE (bU (aa 0) (Bv bL)) bL) (aa 1)) (nN (afc hr.YD (aa 2) (aJ Y.jF wI (hr.le rfl) aG (ae (aa 0) ao))))))),?_];obtain⟨as,z,e1,e2,e3⟩:=hB.last;refine#[_,Z,_,Z,p,_,_,V.ref z,Z,Z,aO.of e1,LO,z,_,_,_,Z,Z,gN.of e3,b8 (j:=0) rfl,_,Z,Z,_,Z,?_];have two :∀c d:bD,aQ b=aQ c++(aQ d++[op])->nJ c->nJ d->(∀H',bo H H'->Q (.bl (i6 a c || i6 a d)) H')->gI (Wx K) (bR 2) (E8 (DY) E0 (eM (bR 0) lO)) [some (.ref p),some (.str (sb (mG op))),some (.ref p2)] H Q:=by
  intro c d er wc wd qq;have hl:=hB.l;rw[er] at hl;simp only[ay,aV,ie] at hl;refine#[_,Z,_,Z,p,c,d,op,Z,by rw[<- er];exact hB.h,wc,wd,by lia,λH' q' p1 p2' s1 z1 z2 z3=>?_];have ic:=j8 wc;have id':=j8 wd;refine#[_,_,zD (hA.same s1).h,.lst (aO.of z3) (.cons (zD z1) (.cons (zD z2) .nil)),nY hA.wi,?_,?_]
  ·have y1:=nY ic
   have y2:=nY id';unfold pY at y1 y2;rw[aB] at y1 y2;simp[oZ,y1.1,y2.1]
  refine FV ?_ (qq H' s1);rw[gQ,gQ,Gd,F3 ic hA.wi,F3 id' hA.wi,fE,zU,zU];congr 1
  ·exact decide_eq_decide.mpr eq_comm
  exact decide_eq_decide.mpr eq_comm
 rw[Rb hB.lw (by lia)];by_cases c:x9 b=op
 ·refine So (decide_eq_true c) ?_
  cases b with
  | basic k n=>subst c;exact absurd ho (by simp[x9,arity])
  | no b=>subst c;exact absurd ho (by simp[x9,arity])
  | grow b=>subst c;exact absurd ho (by simp[x9,arity])
  | both b1 b2=>subst c;exact two b1 b2 rfl hB.w.1 hB.w.2 q
  | either b1 b2=>subst c;exact two b1 b2 rfl hB.w.1 hB.w.2 q
 refine pM (decide_eq_false c) ?_;have z:=q H (same_refl H);rw[adV c] at z;exact z
inductive Rf (vs:List V) (H:Hp) (Q:VK) (_:XK):Prop where
 | mk (p:Addr) (a:bD) (_:vs=[.ref p]) (_:Ar H p a) (_:Rc H [p] (Vbrgah.tidyNo a) Q)
def aas:aK aL 1 T.ni (Rf):=by
 refine Y.ni.F.run Ko λbx A outer s H vs Q E hr h=>?_;obtain⟨p,a,rfl,hA,q⟩:=h;refine#[_,(aj (bG (dg (jE (bU (aa 0) (Bv bL)) bL) dB) (aq (aD (zu (aa 0) Jf (nQ (Bv bL))))) bp) (aq (aD (l8 (aa 0) (cO (ae (nP (ae dB (ae bL ao))) ao)))))),?_];obtain⟨as,z,e1,e2,e3⟩:=hA.last;have ll:as.length=(KH a).length:=e2.length;have la:(KH a).length+1<=1000:=by have:=hA.l;rw[DZ] at this;simpa using this
 refine#[_,Z,_,Z,p,_,_,V.ref z,Z,Z,aO.of e1,LO,z,_,_,_,Z,Z,gN.of e3,b8 (j:=0) rfl,Z,_,Z,?_];have ew:=Rb (op:=.no) hA.lw (by decide);rw[show V.str (Str.ofString "not")=V.str (sb (mG .no)) from congrArg V.str (eA "not"),ew];by_cases c:x9 a=.no
 ·refine So (decide_eq_true c) ?_
  cases a with
  | no b=>
   refine#[_,Z,_,Z,_,Z,p,_,Z,aO.of e1,λq1 de=>?_];rw[Xf (by simp)];have s1:=aT de (.lst (((as++[z]).map V.ref).take (((as++[z]).map V.ref).length - 1)));refine q _ q1 s1 (.inl de) #[as,?_,e2.mono λb xs y=>s1 _ _ y];rw[ah];simp
  | _=>cases c
 refine pM (decide_eq_false c) ?_;have et:Vbrgah.tidyNo a=.no a:=by
  cases a with
  | no b=>exact absurd rfl c
  | _=>rfl
 rw[et] at q;refine#[_,Z,fB 2,λq1 de=>#[fB 1,λq2 wH=>?_]];have s1:=aT de (.tup [V.str ("not" : Str),V.int 0]);have s2:=aT wH (.lst [V.ref q1]);refine#[p,q2,_,_,Z,Z,s2 _ _ (s1 _ _ e1),ah,?_,λq3 HA=>?_]
 ·rw[ai,ay];show _+1+1<=2 ^ 24;lia
 have s3:=aT HA (.lst ((as++[z]).map V.ref++[V.ref q1]));have UL:=(((hA.same s1).same s2).same s3).h;refine q _ q3 (s1.trans (s2.trans s3)) (.inl (s1.free (s2.free HA))) ?_;refine Ow (as:=as++[z]) (bs:=[q1]) ah (by simp) ?_ (.cons (s3 _ _ (s2 _ _ ah)) .nil);have st:=s1.trans (s2.trans s3);rw[DZ];exact Paired.app (e2.mono λb xs y=>st _ _ y) (.cons (st _ _ e3) .nil)
inductive Ox (vs:List V) (H:Hp) (Q:VK) (_:XK):Prop where
 | mk (p:Addr) (a:bD) (_:vs=[.ref p]) (_:Ar H p a) (_:Rc H [p] (if lj a=true then a else .grow a) Q)
def Xh (mO:aK aL 1 T.lT (DX)):aK aL 2 T.mC (Ox):=by
 refine Y.mC.F.run Jo λbx A outer s H vs Q E hr h=>?_;obtain⟨p,a,rfl,hA,q⟩:=h;refine#[_,(aj (bG (gD (aJ Y.lT mO (hr.le rfl) aG (ae (aa 0) ao))) (aq (aD (aa 0))) bp) (aq (aD (l8 (aa 0) (cO (ae (nP (ae dB (ae bL ao))) ao)))))),?_];refine#[_,Z,p,a,Z,hA,λH1 s1=>#[_,Z,bE (λc=>?_) (λc=>?_)]]
 ·rw[if_pos c] at q
  exact#[_,Z,q H1 p s1 (.inr (by simp)) (hA.same s1).h]
 rw[if_neg c] at q;obtain⟨as,e1,e2⟩:=(hA.same s1).h;have hl:as.length<=1000:=by have:=hA.l;have:=e2.length;lia
 refine#[_,Z,fB 2,λq1 de=>#[fB 1,λq2 wH=>?_]];have t1:=aT de (.tup [V.str ("grow" : Str),V.int 0]);have t2:=aT wH (.lst [V.ref q1]);refine#[p,q2,_,_,Z,Z,t2 _ _ (t1 _ _ e1),ah,?_,λq3 HA=>?_]
 ·rw[ai];show _+1<=2 ^ 24;lia
 have t3:=aT HA (.lst (as.map V.ref++[V.ref q1]));have st:=t1.trans (t2.trans t3);refine q _ q3 (s1.trans st) (.inl (s1.free (t1.free (t2.free HA)))) ?_;exact Ow (as:=as) (bs:=[q1]) ah (by simp) (e2.mono λb xs y=>st _ _ y) (.cons (t3 _ _ (t2 _ _ ah)) .nil)
def aat (a b:bD):BU a b=if(lj a || i6 a b)=true then b else if(lj b || jn .either b a)=true then a else .both a b:=by
 unfold BU;split
 ·rfl
 cases h:lj b with
 | true=>simp
 | false=>cases b <;> simp[jn]
def Vd (a b:bD):zj a b=if lj b=true then b else if(lj a || (i6 a b || jn .both b a))=true then a else .either a b:=by
 unfold zj;cases hb:lj b with
 | true=>
  have z:=(Sp.same_iff b (.basic 4 0)).mp hb;simp[z]
 | false=>
  cases ha:lj a with
  | true=>
   have z:=(Sp.same_iff a (.basic 4 0)).mp ha;simp[z]
  | false=>
   cases hs:i6 a b with
   | true=>simp
   | false=>cases b <;> simp[jn]
def adW (hA:Ar H p1 a) (hB:Ar H p2 b) (s:bo H H1) (hw:V.str wd=V.str (sb (mG op))) (hn:Cv op=0) (er:aQ r=aQ a++(aQ b++[op])) (q:Rc H ps r Q) :
  M7 (.ref p1) (.ref p2) H1 λx H2=>[V.str wd,V.int 0].length<=sizeLine/\∀q1,H2 q1=none->[V.ref q1].length<=sizeLine/\∀q2,aX H2 q1 (.tup [V.str wd,V.int 0]) q2=none->M7 x (.ref q2) (aX (aX H2 q1 (.tup [V.str wd,V.int 0])) q2 (.lst [V.ref q1])) Q:=by
 obtain⟨as,a1,a2⟩:=(hA.same s).h;obtain⟨bs,b1,b2⟩:=(hB.same s).h;have la:as.length<=1000:=by have:=hA.l;have:=a2.length;lia
 have lb:bs.length<=1000:=by have:=hB.l;have:=b2.length;lia
 refine#[p1,p2,_,_,Z,Z,a1,b1,?_,λp hp=>#[fB 2,λq1 de=>#[fB 1,λq2 wH=>?_]]]
 ·rw[ai,ai];show _<=2 ^ 24;lia
 have t0:=aT hp (.lst (as.map V.ref++bs.map V.ref));have t1:=aT de (.tup [V.str wd,V.int 0]);have t2:=aT wH (.lst [V.ref q1]);refine#[p,q2,_,_,Z,Z,t2 _ _ (t1 _ _ ah),ah,?_,λq3 HA=>?_]
 ·rw[ay,ai,ai];show _+1<=2 ^ 24;lia
 have t3:=aT HA (.lst ((as.map V.ref++bs.map V.ref)++[V.ref q1]));have st:=t0.trans (t1.trans (t2.trans t3));refine q _ q3 (s.trans st) (.inl (s.free (t0.free (t1.free (t2.free HA))))) ?_;rw[er,<- gm];refine Ow (as:=as++bs) (bs:=[q1]) ah (by simp) (Paired.app (a2.mono λb xs y=>st _ _ y) (b2.mono λb xs y=>st _ _ y)) (.cons (t3 _ _ (t2 _ _ ?_)) .nil);rw[ah,hw];show some (HO.tup [V.str (sb (mG op)),V.int 0])=some (HO.tup [V.str (sb (mG op)),V.int ((Cv op:Nat):Int)]);rw[hn];rfl
inductive Rg (vs:List V) (H:Hp) (Q:VK) (_:XK):Prop where
 | mk (p1 p2:Addr) (a b:bD) (_:vs=[.ref p1,.ref p2]) (_:Ar H p1 a) (_:Ar H p2 b) (_:Rc H [p1,p2] (BU a b) Q)
def aau (mO:aK aL 1 T.lT (DX)) (zQ:aK aL 2 T.vj (Il)):aK aL 3 T.nr (Rg):=by
 refine Y.nr.F.run Kq λbx A outer s H vs Q E hr h=>?_;obtain⟨p1,p2,a,b,rfl,hA,hB,q⟩:=h;refine#[_,(aj (bG (qK (w_or (gD (aJ Y.lT mO (hr.le rfl) aG (ae (aa 0) ao))) (oX (YE hr.YD (aa 0) (aa 1))))) (aq (aD (aa 1))) bp) (aj (bG (qK (w_or (gD (aJ Y.lT mO (hr.le rfl) aG (ae (aa 1) ao))) (oX (gD (aJ Y.vj zQ (hr.le rfl) aG (ae (aa 1) (ae dB (ae (aa 0) ao)))))))) (aq (aD (aa 0))) bp) (aq (aD (l8 (l8 (aa 0) (aa 1)) (cO (ae (nP (ae dB (ae bL ao))) ao))))))),?_];rw[aat] at q;refine#[_,Z,p1,a,Z,hA,λH1 s1=>#[_,Z,bE (λc=>?_) (λc=>?_)]]
 ·refine cF #[_,Z,?_]
  rw[if_pos (by rw[c];rfl)] at q;exact q H1 p2 s1 (.inr (by simp)) (hB.same s1).h
 refine#[_,Z,_,Z,_,_,zD (hA.same s1).h,zD (hB.same s1).h,nY hA.wi,nY hB.wi,_,Z,?_];rw[F3 hA.wi hB.wi,<- zU];refine bE (λd=>?_) (λd=>?_)
 ·rw[if_pos (by rw[d,jN])] at q
  exact#[_,Z,q H1 p2 s1 (.inr (by simp)) (hB.same s1).h]
 rw[if_neg (by rw[dz] at c d;rw[c,d];decide)] at q;clear c d;refine#[_,Z,p2,b,Z,hB.same s1,λH2 s2=>#[_,Z,bE (λc=>?_) (λc=>?_)]]
 ·refine cF #[_,Z,?_]
  rw[if_pos (by rw[c];rfl)] at q;exact q H2 p1 (s1.trans s2) (.inr (by simp)) ((hA.same s1).same s2).h
 refine#[_,Z,_,Z,p2,p1,a,b,.either,Z,(hB.same s1).same s2,(hA.same s1).same s2,Z,λH3 s3=>#[_,Z,bE (λd=>?_) (λd=>?_)]]
 ·rw[if_pos (by rw[d,jN])] at q
  exact#[_,Z,q H3 p1 (s1.trans (s2.trans s3)) (.inr (by simp)) (((hA.same s1).same s2).same s3).h]
 rw[if_neg (by rw[dz] at c d;rw[c,d];decide)] at q;exact#[_,Z,_,Z,adW (op:=.both) hA hB (s1.trans (s2.trans s3)) rfl rfl rfl q]
inductive Ve (vs:List V) (H:Hp) (Q:VK) (_:XK):Prop where
 | mk (p1 p2:Addr) (a b:bD) (_:vs=[.ref p1,.ref p2]) (_:Ar H p1 a) (_:Ar H p2 b) (_:Rc H [p1,p2] (zj a b) Q)
def adX (mO:aK aL 1 T.lT (DX)) (zQ:aK aL 2 T.vj (Il)):aK aL 3 T.pF (Ve):=by
 refine Y.pF.F.run Mh λbx A outer s H vs Q E hr h=>?_;obtain⟨p1,p2,a,b,rfl,hA,hB,q⟩:=h;refine#[_,(aj (bG (gD (aJ Y.lT mO (hr.le rfl) aG (ae (aa 1) ao))) (aq (aD (aa 1))) bp) (aj (bG (qK (w_or (gD (aJ Y.lT mO (hr.le rfl) aG (ae (aa 0) ao))) (w_or (YE hr.YD (aa 0) (aa 1)) (oX (gD (aJ Y.vj zQ (hr.le rfl) aG (ae (aa 1) (ae dB (ae (aa 0) ao))))))))) (aq (aD (aa 0))) bp) (aq (aD (l8 (l8 (aa 0) (aa 1)) (cO (ae (nP (ae dB (ae bL ao))) ao))))))),?_];rw[Vd] at q;refine#[_,Z,p2,b,Z,hB,λH1 s1=>#[_,Z,bE (λc=>?_) (λc=>?_)]]
 ·rw[if_pos c] at q
  exact#[_,Z,q H1 p2 s1 (.inr (by simp)) (hB.same s1).h]
 rw[if_neg c] at q;refine#[_,Z,p1,a,Z,hA.same s1,λH2 s2=>#[_,Z,bE (λd=>?_) (λd=>?_)]]
 ·rw[if_pos (by rw[d];rfl)] at q
  exact cF #[_,Z,q H2 p1 (s1.trans s2) (.inr (by simp)) ((hA.same s1).same s2).h]
 have sA:=(hA.same s1).same s2;have sB:=(hB.same s1).same s2;refine#[_,Z,_,Z,_,_,zD sA.h,zD sB.h,nY hA.wi,nY hB.wi,_,Z,?_];rw[F3 hA.wi hB.wi,<- zU];refine bE (λf=>?_) (λf=>?_)
 ·rw[if_pos (by rw[f,w6,jN])] at q
  exact cF #[_,Z,q H2 p1 (s1.trans s2) (.inr (by simp)) sA.h]
 refine#[_,Z,_,Z,p2,p1,a,b,.both,Z,sB,sA,Z,λH3 s3=>#[_,Z,bE (λg=>?_) (λg=>?_)]]
 ·rw[if_pos (by rw[g,jN,jN])] at q
  exact#[_,Z,q H3 p1 (s1.trans (s2.trans s3)) (.inr (by simp)) (sA.same s3).h]
 rw[if_neg (by rw[dz] at d f g;rw[d,f,g];decide)] at q;exact#[_,Z,_,Z,adW (op:=.either) hA hB (s1.trans (s2.trans s3)) rfl rfl rfl q]
def tU (l:List bD):Nat:=(l.map λa=>(aQ a).length).sum
def afk (h:uY mS it iI=some v) (hw :∀x∈iI,nJ x) (hi:nL it):nJ v/\(aQ v).length<=tU iI+1:=by
 cases it with
 | sim k n=>
  obtain⟨rfl,rfl⟩:=CV h;exact#[hi,aN 1]
 | no=>
  obtain⟨x,rfl,rfl⟩:=FQ h;have z:=XM (n:=(aQ x).length) #[hw x (by simp),aN _];exact#[z.1,by simpa [tU,mS] using z.2]
 | grow=>
  obtain⟨x,rfl,rfl⟩:=AH h;have z:=Pu (n:=(aQ x).length) #[hw x (by simp),aN _];exact#[z.1,by simpa [tU,mS] using z.2]
 | both=>
  obtain⟨x,y,rfl,rfl⟩:=zN h;have z:=Pw (m:=(aQ x).length) (n:=(aQ y).length) #[hw x (by simp),aN _] #[hw y (by simp),aN _];exact#[z.1,by simpa [tU,mS] using z.2]
 | either=>
  obtain⟨x,y,rfl,rfl⟩:=vt h;have z:=KS (m:=(aQ x).length) (n:=(aQ y).length) #[hw x (by simp),aN _] #[hw y (by simp),aN _];exact#[z.1,by simpa [tU,mS] using z.2]
def Oy (l r:List bD):tU (l++r)=tU l+tU r:=by simp[tU]
def Xi (l:List bD) (k:Nat):tU (l.take k)+tU (l.drop k)=tU l:=by rw[<- Oy,ip]
def adY (h:Paired (Ar H) as iI) :∀x∈iI,nJ x:=by
 induction h with
 | nil=>intro x hx;cases hx
 | cons h1 _ ih=>
  intro x hx;rcases bS.mp hx with rfl | hx
  ·exact h1.w
  exact ih x hx
inductive Oz (vs:List V) (H:Hp) (Q:VK) (_:XK):Prop where
 | mk (op:Addr) (as:List Addr) (it:Sp.Itm) (iI:List bD) (v:bD) (_:vs=[.str (sb (mG it)),.int (Cv it:Nat),.ref op]) (_:H op=some (.lst (as.map V.ref))) (_:Paired (Ar H) as iI) (_:nL it) (_:uY mS it iI=some v) (_:Rc H as v Q)
def Xj (yR:aK aL 1 T.ni (Rf)) (xM:aK aL 2 T.mC (Ox))
  (yS:aK aL 3 T.nr (Rg)) (AW:aK aL 3 T.pF (Ve)) :
  aK aL 4 T.mB (Oz):=by
 refine Y.mB.F.run Jn λbx A outer s H vs Q E hr h=>?_;obtain⟨op,as,it,iI,v,rfl,ho,hA,hi,hv,q⟩:=h;refine#[_,(aj (bG (dg (aa 0) dB) (aq (aD (aJ Y.ni yR (hr.le rfl) aG (ae (bU (aa 2) bL) ao)))) bp) (aj (bG (dg (aa 0) dB) (aq (aD (aJ Y.mC xM (hr.le rfl) aG (ae (bU (aa 2) bL) ao)))) bp) (aj (bG (dg (aa 0) dB) (aq (aD (aJ Y.nr yS (hr.le rfl) aG (ae (bU (aa 2) bL) (ae (bU (aa 2) bL) ao))))) bp) (aj (bG (dg (aa 0) dB) (aq (aD (aJ Y.pF AW (hr.le rfl) aG (ae (bU (aa 2) bL) (ae (bU (aa 2) bL) ao))))) bp) (aq (aD (cO (ae (nP (ae (aa 0) (ae (aa 1) ao))) ao)))))))),?_];cases it with
 | sim k n=>
  obtain⟨rfl,rfl⟩:=CV hv;cases hA;obtain⟨w1,w2,w3,w4⟩:=Qz hi.1;refine#[_,Z,Z,_,Z,pM w3 ?_];refine#[_,Z,Z,_,Z,pM w4 ?_];refine#[_,Z,Z,_,Z,pM w2 ?_];refine#[_,Z,Z,_,Z,pM w1 ?_];refine#[_,Z,_,Z,fB 2,λq1 de=>#[fB 1,λq2 wH=>?_]];have t1:=aT de (.tup [V.str (sb (mG (.sim k n))),V.int ((Cv (.sim k n):Nat):Int)]);have t2:=aT wH (.lst [V.ref q1]);exact q _ q2 (t1.trans t2) (.inl (t1.free wH)) #[[q1],ah,.cons (t2 _ _ ah) .nil]
 | no=>
  obtain⟨x,rfl,rfl⟩:=FQ hv;cases hA with
  | @cons a1 _ _ _ h1 r=>
   cases r;refine#[_,Z,Z,_,Z,cF ?_];exact#[_,Z,op,_,_,_,Z,Z,aO.of ho,b8 (j:=0) rfl,a1,x,Z,h1,q]
 | grow=>
  obtain⟨x,rfl,rfl⟩:=AH hv;cases hA with
  | @cons a1 _ _ _ h1 r=>
   cases r;refine#[_,Z,Z,_,Z,cH ?_];refine#[_,Z,Z,_,Z,cF ?_];exact#[_,Z,op,_,_,_,Z,Z,aO.of ho,b8 (j:=0) rfl,a1,x,Z,h1,q]
 | both=>
  obtain⟨x,y,rfl,rfl⟩:=zN hv;cases hA with
  | @cons a1 _ _ _ h1 r=>
   cases r with
   | @cons a2 _ _ _ h2 r=>
    cases r;refine#[_,Z,Z,_,Z,cH ?_];refine#[_,Z,Z,_,Z,cH ?_];refine#[_,Z,Z,_,Z,cF ?_];exact#[_,Z,op,_,_,_,Z,Z,aO.of ho,b8 (j:=0) rfl,_,Z,op,_,_,_,Z,Z,aO.of ho,b8 (j:=1) rfl,a1,a2,x,y,Z,h1,h2,q]
 | either=>
  obtain⟨x,y,rfl,rfl⟩:=vt hv;cases hA with
  | @cons a1 _ _ _ h1 r=>
   cases r with
   | @cons a2 _ _ _ h2 r=>
    cases r;refine#[_,Z,Z,_,Z,cH ?_];refine#[_,Z,Z,_,Z,cH ?_];refine#[_,Z,Z,_,Z,cH ?_];refine#[_,Z,Z,_,Z,cF ?_];exact#[_,Z,op,_,_,_,Z,Z,aO.of ho,b8 (j:=0) rfl,_,Z,op,_,_,_,Z,Z,aO.of ho,b8 (j:=1) rfl,a1,a2,x,y,Z,h1,h2,q]
inductive Im (vs:List V) (H:Hp) (Q:VK) (_:XK):Prop where
 | mk (p:Addr) (a:bD) (_:vs=[.ref p]) (_:Ar H p a) (_ :∀H' q,bo H H'->H q=none->gK H' q (aQ (rB a))->Q (.ref q) H')
def Xk (fD:aK aL 1 T.eS (AE)) (xN:aK aL 4 T.mB (Oz)) :
  aK aL 5 T.ku (Im):=by
 refine Y.ku.F.run nS λbx A outer s H vs Q E hr h=>?_;obtain⟨p,a,rfl,⟨⟨as,hp,hI⟩,hw,hl⟩,q⟩:=h;refine#[_,(aj (aZ 1 nS.nd (cO ao)) (aj (kJ PassesOwn.never rfl (fo (aa 0)) (My rfl (u7 (gu 2 nS.nd) (u7 (gu 3 nS.nd) Jh))) (aj (aZ 4 nS.nd (aJ Y.eS fD (hr.le rfl) aG (ae (aa 1) (ae (aa 2) ao)))) (aq (dC (qt (aa 1) (aJ Y.mB xN (hr.le rfl) aG (ae (aa 2) (ae (aa 3) (ae (aa 4) ao))))))))) (aq (aD (bU (aa 1) bL))))),?_];refine#[bK _,λfl qJ=>?_];have NV:p≠fl:=aI hp qJ;have AF:=mm mS a [];have mh:as.length=(aQ a).length:=hI.length;refine#[_,Z,p,Z,#[_,aO.of (by rw[au NV];exact hp)],?_];refine jD (xs:=as.map V.ref) (λj σ Hc=>∃(st:List bD) (fs:List Addr) (z1 z2 z3:Option V),σ = [some (.ref p),some (.ref fl),z1,z2,z3]/\iw mS ((aQ a).take j) []=some st/\Hc fl=some (.lst (fs.map V.ref))/\Paired (Ar Hc) fs st/\(∀b∈fs,H b=none/\b≠fl)/\tU st<=j/\bo H Hc)
  #[[],[],none,none,none,Z,Z,ah,.nil,(λb hb=>by cases hb),aN _,aT qJ _] (λi σ Hc _ e=>?_) (λi xx σ Hc UP e=>?_) (λσ Hc e=>?_)
 ·obtain⟨_,_,_,_,_,_,_,_,_,_,_,hS⟩:=e
  exact aO.of (hS _ _ hp)
 ·obtain⟨st,fs,z1,z2,z3,rfl,e1,e2,e3,e4,e5,hS⟩:=e
  obtain⟨b,it,rfl,rG,hb⟩:=FO hI UP;have fW:=hS _ _ hb;obtain⟨s1,s2,r1,r2,r3⟩:=IC mS AF rG;rw[e1] at r1;cases r1;obtain⟨NW,v,hv,rfl⟩:=sV r2;have za:=j8 hw it (aP rG);have hi:i < (aQ a).length:=(az.mp rG).1;have Lz:fs.length=st.length:=e3.length;have fk:st.length<=1000:=by
   have z:=yr e1;rw[bJ] at z;simp at z
   lia
  have wst:=adY e3;have Ue:=afk hv (λl hl=>wst l (qE hl)) za;have ado:=Xi st (st.length - arity it);refine#[b,_,Z,gN.of fW,Z,_,_,Z,_,_,Z,Z,?_];refine#[_,Z,_,Z,fl,it,fs.map V.ref,Z,e2,za,by rw[ai];lia,λo H' ho h1 h2 h3=>?_];rw[ai,Lz,<- lX] at h1;rw[ai,Lz,<- lY] at h2;have hfo:fl≠o:=aI e2 ho;have upA :∀{x:Addr} {y:bD},x≠fl->Ar Hc x y->Ar H' x y:=λ{x y} hx hy=>by
   refine#[?_,hy.w,hy.l];obtain⟨qf,y1,y2⟩:=hy.h;refine#[qf,?_,y2.mono λb xs z=>?_]
   ·rw[h3 x hx (aI y1 ho)];exact y1
   rw[h3 b (λzz=>by rw[zz,e2] at z;cases z) (aI z ho)];exact z
  have up :∀(oP:List Addr) (jX:List bD),Paired (Ar Hc) oP jX->(∀b∈oP,H b=none/\b≠fl)->Paired (Ar H') oP jX:=by
   intro oP jX hh
   induction hh with
   | nil=>intro _;exact .nil
   | @cons b' l' _ _ z _ ih=>
    intro cG;exact .cons (upA (cG b' (by simp)).2 z) (ih λl hl=>cG l (by simp[hl]))
  have LA:=up fs st e3 e4;have CU:bo H H':=λb' o' hh=>by
   rw[h3 b' (aI hh qJ) (aI (hS _ _ hh) ho)];exact hS _ _ hh
  refine#[_,Z,.inl #[Z,_,aO.of h2],_,Z,_,Z,_,Z,o,fs.drop (st.length - arity it),it,st.drop (st.length - arity it),v,Z,h1,Paired.drop _ LA,za,hv,λH2 q2 s2 n2 g2=>?_];have UZ:=s2 _ _ h2;have nq:H q2=none/\q2≠fl:=by
   rcases n2 with z | z
   ·exact#[CU.free z,λzz=>by rw[zz,h2] at z;cases z]
   exact e4 q2 (qE z)
  refine#[fl,_,Z,UZ,?_,_,fs.take (st.length - arity it)++[q2],_,_,_,Z,r3,by rw[ah,br];rfl,?_,?_,?_,λb' o' hh=>?_]
  ·rw[ai,bJ]
   show _ < 2 ^ 24
   lia
  ·have YX :∀{x:Addr} {y:bD} {u:HO},x≠fl->Ar H2 x y->Ar (aX H2 fl u) x y:=λ{x y u} hx hy=>by
    refine#[?_,hy.w,hy.l];obtain⟨qf,y1,y2⟩:=hy.h;refine#[qf,?_,y2.mono λb xs z=>?_]
    ·rw[au hx];exact y1
    rw[au (λzz=>by rw[zz,UZ] at z;cases z)];exact z
   have Es :∀(u:HO) (oP:List Addr) (jX:List bD),Paired (Ar H2) oP jX->(∀b∈oP,b≠fl)->Paired (Ar (aX H2 fl u)) oP jX:=by
    intro u oP jX hh
    induction hh with
    | nil=>intro _;exact .nil
    | @cons b' l' _ _ z _ ih=>
     intro cG;exact .cons (YX (cG b' (by simp)) z) (ih λl hl=>cG l (by simp[hl]))
   have t3:Paired (Ar H2) (fs.take (st.length - arity it)) (st.take (st.length - arity it)):=Paired.imp (λb' l' z=>z.same s2) (Paired.take _ LA);refine Es _ _ _ (Paired.app t3 (.cons #[g2,Ue.1,by lia] .nil)) λb' fW=>?_;rcases eY.mp fW with h | h
   ·exact(e4 b' (jQ h)).2
   rw[fu.mp h];exact nq.2
  ·intro b' fW
   rcases eY.mp fW with h | h
   ·exact e4 b' (jQ h)
   rw[fu.mp h];exact nq
  ·rw[Oy]
   show _+tU [v]<=_;have:tU [v]=(aQ v).length:=by simp[tU]
   lia
  rw[au (aI hh qJ)];exact s2 _ _ (CU _ _ hh)
 obtain⟨st,fs,z1,z2,z3,rfl,e1,e2,e3,e4,e5,hS⟩:=e;rw[ai,mh,cq,AF,Df] at e1;cases e1;cases e3 with
 | @cons b _ _ _ h1 r=>
  cases r;exact#[_,Z,fl,_,_,_,Z,Z,aO.of e2,b8 (j:=0) rfl,q Hc b hS (e4 b (by simp)).1 h1.h]
def Rh (h:g7 s):g7 (cS s):=by
 refine#[h.act,h.n,h.set,?_,λc hc=>?_]
 ·have z:=qW h.area.1
  exact#[z.1,c8 z.2 h.area.2]
 cases e:s.cond with
 | none=>simp[cS,e] at hc
 | some d=>
  simp[cS,e] at hc;subst hc;have z:=qW (h.cond d e).1;exact#[z.1,c8 z.2 (h.cond d e).2]
inductive OA (vs:List V) (H:Hp) (Q:VK) (_:XK):Prop where
 | mk (a:Addr) (s:cC) (_:vs=[.ref a]) (_:du H a s) (_:g7 s) (_ :∀H' a',bo H H'->H a'=none->du H' a' (cS s)->Q (.ref a') H')
def Xl (tE:aK aL 5 T.ku (Im)) (rn:wu aL 1 T.bI (sv)) :
  aK aL 6 T.mz (OA):=by
 refine Y.mz.F.run wm λbx A outer s H vs Q E hr h=>?_;obtain⟨a,st,rfl,⟨dx,p,wv,k1,k2,k3⟩,hw,q⟩:=h;refine#[_,(aj (aZ 1 wm.nd Lk) (aj (bG (E7 (aW (aa 0))) (aq (aZ 1 wm.nd (aJ Y.ku tE (hr.le rfl) aG (ae (aW (aa 0)) ao)))) bp) (aq (aD (vU Y.bI.ug Y.bI.b Y.bI.m rn (hr.le rfl) aG (ae (aW (aa 0)) (ae (aW (aa 0)) (ae (aJ Y.ku tE (hr.le rfl) aG (ae (aW (aa 0)) ao)) (ae (aa 1) ao))))))))),?_];have di :∀(H1:Hp) (LP:V),bo H H1->(match st.cond.map rB with
   | none=>LP=.cj
   | some c=>∃p',LP=.ref p'/\gK H1 p' (aQ c))->
   ql (HU T.bI.C (sv) E0 (eM (jf K (bR 0) "act") (eM (jf K (bR 0) "amount") (eM (E8 (Im) E0 (eM (jf K (bR 0) "area") lO)) (eM (bR 1) lO))))) { nx:=λ_ H'=>Q .cj H',rt:=Q } [some (.ref a),some LP] H1:=by
  intro H1 LP s1 hc;have Hq:=s1 _ _ k1;refine#[_,Z,a,_,dx,_,_,Z,Hq,Y.bI.cl,Y.dO,Z,_,Z,a,_,dx,_,_,Z,Hq,Y.bI.cl,Y.el,Z,_,Z,a,_,dx,_,_,Z,Hq,Y.bI.cl,Y.me,Z,p,st.area,Z,#[k2.same s1,hw.area.1,by have:=hw.area.2;lia],λH2 q2 s2 n2 g2=>?_];refine#[_,Z,λx qH hx iV cG=>?_];refine#[x,qH,_,_,_,_,Z,ah,Z,?_];rw[ij];have sS:=jv hx iV cG (.own x) (.ins T.bI.C qH (yo (.str (iQ st.act)) (.int (st.n:Nat)) (.ref q2) LP));refine q _ x (s1.trans (s2.trans sS)) (s1.free (s2.free hx)) #[qH,q2,LP,ah,g2.same sS,?_];show match st.cond.map rB with
   | none=>LP=.cj
   | some c=>∃p',LP=.ref p'/\gK _ p' (aQ c)
  cases e:st.cond with
  | none=>rw[e] at hc;exact hc
  | some c=>
   rw[e] at hc;obtain⟨p',e1,e2⟩:=hc;exact#[p',e1,(e2.same s2).same sS]
 refine#[_,Z,a,_,dx,_,_,Z,k1,Y.bI.cl,Y.iE,Z,_,Z,?_];cases e:st.cond with
 | none=>
  rw[e] at k3 di;obtain rfl:wv=.cj:=k3;exact cH (di H .cj (same_refl H) rfl)
 | some c=>
  rw[e] at k3 di;obtain⟨p',rfl,k4⟩:=k3;have hc:=hw.cond c e;refine cF #[_,Z,a,_,dx,_,_,Z,k1,Y.bI.cl,Y.iE,Z,p',c,Z,#[k4,hc.1,by have:=hc.2;lia],λH1 q1 s1 n1 g1=>?_];exact di H1 (.ref q1) s1 #[q1,Z,g1]
inductive LQ (vs:List V) (H:Hp) (Q:VK) (_:XK):Prop where
 | mk (p:Addr) (as:List Addr) (sp:cz) (_:vs=[.ref p]) (_:H p=some (.lst (as.map V.ref))) (_:hZ H as sp) (_:(∀s∈sp,g7 s)) (_:sp.length<=301) (_ :∀H' q qf,bo H H'->H q=none->H' q=some (.lst (qf.map V.ref))->hZ H' qf (sp.map cS)->Q (.ref q) H')
def Vf (xO:aK aL 6 T.mz (OA)) :
  aK aL 7 T.lC (LQ):=by
 refine Y.lC.F.run uN λbx A outer s H vs Q E hr h=>?_;obtain⟨p,as,sp,rfl,hp,hS,hw,hl,q⟩:=h;refine#[_,(aq (aD (lP [("step",1)] rfl uN.nd (fo (aa 0)) (dJ rfl) (λ_ _ _ _ _=>(gu 1 uN.nd)) (λ_ _ _ _ _=>gO) (λ_ _ _ _ _=>(aJ Y.mz xO (hr.le rfl) aG (ae (aa 1) ao)))))),?_];have mh:as.length=sp.length:=hS.length;refine#[_,Z,p,Z,#[_,aO.of hp],λD hD=>?_];have ne:p≠D:=aI hp hD;refine qX (xs:=as.map V.ref) (λi H'=>bo H H'/\∃qf:List Addr,H' D=some (.lst (qf.map V.ref))/\hZ H' qf ((sp.take i).map cS)) #[aT hD _,[],ah,.nil] (λi H' _ e=>aO.of (e.1 _ _ hp)) (λi x H' hx e=>?_) (λH' e=>?_)
 ·obtain⟨a,st,rfl,fk,hA⟩:=JF hS hx
  obtain⟨e1,qf,e2,e3⟩:=e;have hi:i < sp.length:=(az.mp fk).1;have WI:qf.length=(sp.take i).length:=by have:=e3.length;rw[ai] at this;exact this
  refine#[Z,xD ?_];refine#[_,Z,a,st,Z,du.same e1 hA,hw st (aP fk),λH2 a2 s2 n2 g2=>?_];have cG :∀{b:Addr} {jX:cC},du H2 b jX->du (aX H2 D (.lst (qf.map V.ref++[V.ref a2]))) b jX:=λ{b jX} hb=>by
   refine du.mono hb (λC dx fs z=>?_) λp' l u6 PB=>?_
   ·rw[au (λzz=>by rw[zz,s2 _ _ e2] at z;cases z)];exact z
   obtain⟨bs,z1,z2⟩:=u6;refine#[bs,?_,z2.mono λb xs z=>?_]
   ·rw[au (λzz=>?_)];exact z1
    rw[zz,s2 _ _ e2] at z1;have ee:qf.map V.ref=bs.map V.ref:=HO.lst.inj (bN.inj z1);have eb:qf=bs:=by
     have inj :∀{l r:List Addr},l.map V.ref=r.map V.ref->l=r:=λ{l r} h=>List.map_inj_right (λ_ _ z=>V.ref.inj z) |>.mp h
     exact inj ee
    subst eb;cases z2 with
    | nil=>exact PB rfl
    | @cons b1 i1 _ _ y1 _=>
     obtain⟨s3,y2,y3⟩:=Paired.get (hZ.mono (λ_ _ z=>du.same s2 z) e3) (i:=0) rfl;obtain⟨_,_,_,y4,_⟩:=y3;have y1':H2 b1=_:=y1;rw[y4] at y1';cases y1'
   rw[au (λzz=>by rw[zz,s2 _ _ e2] at z;cases z)];exact z
  refine#[_,s2 _ _ e2,?_,λb o hb=>?_,qf++[a2],?_,?_]
  ·rw[ai,WI,bJ];show _ < 2 ^ 24;lia
  ·rw[au (aI hb hD)];exact s2 _ _ (e1 _ _ hb)
  ·rw[ah,br];rfl
  rw[bW,fk,br];exact Paired.app (hZ.mono (λ_ _ z=>cG (du.same s2 z)) e3) (.cons (cG g2) .nil)
 obtain⟨e1,qf,e2,e3⟩:=e;rw[ai,mh,cq] at e3;exact q H' D qf e1 hD e2 e3
def rM (s:cC):List Sp.Itm:=match s.cond with
 | none=>[]
 | some c=>aQ c
def gJ (s:cC):List Sp.Itm:=aQ s.area++rM s
def F4 (i:Sp.Itm):V:=.str (sb (mG i))
def Ri (h:g7 s) :∀i∈gJ s,nL i:=by
 intro i hi;rcases eY.mp hi with z | z
 ·exact j8 h.area.1 i z
 unfold rM at z;cases e:s.cond with
 | none=>rw[e] at z;cases z
 | some c=>rw[e] at z;exact j8 (h.cond c e).1 i z
def OB (h:g7 s):(gJ s).length<=602:=by
 unfold gJ rM;rw[ay];have z:=h.area.2;cases e:s.cond with
 | none=>simp;lia
 | some c=>have y:=(h.cond c e).2;simp only;lia
def aav (s:cC):(gJ s).any GO=(tK s).any Vbrgah.readsPlaces:=by
 unfold gJ rM tK;rw[wZ,yc,gQ];cases s.cond with
 | none=>rfl
 | some c=>simp[yc]
def aaw (s:cC):(gJ s).any GP=(tK s).any Vbrgah.readsGround:=by
 unfold gJ rM tK;rw[wZ,yd,gQ];cases s.cond with
 | none=>rfl
 | some c=>simp[yd]
abbrev SE:List V:=[.str "self",.str "line",.str "bolt",.str "beings",.str "foes",.str "friends"]
abbrev OC:List V:=[.str "bolt",.str "burst"]
abbrev OD:List V:=[.str "wall",.str "floor",.str "water",.str "ice",.str "fire"]
abbrev OE:List V:=[.str "push",.str "pull",.str "blink"]
def afl (h:nL i):pf (F4 i) SE=GO i:=by
 cases i with
 | no=>rfl
 | grow=>rfl
 | both=>rfl
 | either=>rfl
 | sim k n=>
  have hk:k < 16:=h.1
  match k,hk with
  | 0,_ | 1,_ | 2,_ | 3,_ | 4,_ | 5,_ | 6,_ | 7,_ | 8,_ | 9,_ | 10,_ | 11,_ | 12,_ | 13,_ | 14,_ | 15,_=>rfl
  | j+16,h=>exact absurd h (by lia)
def afm (h:nL i):(pf (F4 i) OC || pf (F4 i) OD)=GP i:=by
 cases i with
 | no=>rfl
 | grow=>rfl
 | both=>rfl
 | either=>rfl
 | sim k n=>
  have hk:k < 16:=h.1
  match k,hk with
  | 0,_ | 1,_ | 2,_ | 3,_ | 4,_ | 5,_ | 6,_ | 7,_ | 8,_ | 9,_ | 10,_ | 11,_ | 12,_ | 13,_ | 14,_ | 15,_=>rfl
  | j+16,h=>exact absurd h (by lia)
def YY (h:g7 s):pf (.str (iQ s.act)) OE=iB s:=by
 unfold iB;have:=h.act;generalize s.act=k at this
 match k,this with
 | 0,_ | 1,_ | 2,_ | 3,_ | 4,_ | 5,_=>rfl
 | j+6,h=>exact absurd h (by lia)
def JR (h:g7 s):decide (V.str (iQ s.act)=V.str "set")=fj s:=by
 unfold fj;have:=h.act;generalize s.act=k at this
 match k,this with
 | 0,_ | 1,_ | 2,_ | 3,_ | 4,_ | 5,_=>rfl
 | j+6,h=>exact absurd h (by lia)
inductive Io (vs:List V) (H:Hp) (Q:VK) (_:XK):Prop where
 | mk (a:Addr) (s:cC) (_:vs=[.ref a]) (_:du H a s) (_:g7 s) (_ :∀H' q,bo H H'->H q=none->H' q=some (.lst ((gJ s).map F4))->Q (.ref q) H')
def OF {σ : L2.St} {H:Hp} {D p:Addr} {l:List Sp.Itm} {v:Nat} {Qd:Hp->Prop} {te:TE} (hp:gK H p l) (hl:l.length<=301) (hD:H D=none) (hte :∀(b:Addr) (Hc:Hp) (Q:VK),te ((σ.set v none).set v (some (.ref b))) Hc Q↔V6 K (.ref b) (.int 0) Hc Q)
  (di :∀H',bo H H'->H' D=some (.lst (l.map F4))->Qd H') :
  ∃W:Nat->Nat->Hp->Prop,(∃m,W 0 m (aX H D (.lst [])))/\∀i m H,W i m H->
   ((zW K p).stop i H/\Qd H)\/((zW K p).go i H/\∃Nx:Hp->Prop,(∀H',Nx H'->∃m',m' < m/\W (i+1) m' H')/\∀x H',(zW K p).ET i H x H'->l5 v x (fg σ [v]) H' λσ2 H2=>fg σ2 [v]=fg σ [v]/\HL σ2 H2 λb H3=>
    if b=true then te σ2 H3 λy H4=>∃acc,H4 D=some (.lst acc)/\acc.length < sizeLine/\Nx (aX H4 D (.lst (acc++[y]))) else Nx H3):=by
 obtain⟨as,h1,h2⟩:=hp;have mh:as.length=l.length:=h2.length;refine qX (xs:=as.map V.ref) (λi H'=>bo H H'/\H' D=some (.lst ((l.take i).map F4))) #[aT hD _,ah] (λi H' _ e=>aO.of (e.1 _ _ h1)) (λi x H' hx e=>?_) (λH' e=>di H' e.1 (by rw[e.2,ai,mh,cq]));obtain⟨b,it,rfl,rG,hb⟩:=FO h2 hx;have hi:i < l.length:=(az.mp rG).1;refine#[?_,xD ?_]
 ·simp[fg]
 refine(hte b H' _).mpr #[b,_,_,_,Z,Z,gN.of (e.1 _ _ hb),b8 (j:=0) rfl,_,e.2,?_,λb' o' fW=>?_,?_]
 ·rw[ai,bJ];show _ < 2 ^ 24;lia
 ·rw[au (aI fW hD)];exact e.1 _ _ fW
 rw[ah,bW,rG,br];rfl
def Xm:aK aL 1 T.kW (Io):=by
 refine Y.kW.F.run qN λbx A outer s H vs Q E hr h=>?_;obtain⟨a,st,rfl,⟨dx,p,wv,k1,k2,k3⟩,hw,q⟩:=h;refine#[_,(aj (CD 1 [("part",2)] rfl qN.nd (fo (aW (aa 0))) (dJ rfl) (λ_ _ _ _ _=>(gu 2 qN.nd)) (λ_ _ _ _ _=>gO) (λ_ _ _ _ _=>(jE (aa 2) bL))) (aj (bG (E7 (aW (aa 0))) (aq (dC (DE (aa 1) (lP [("part",2)] rfl qN.nd (fo (aW (aa 0))) (dJ rfl) (λ_ _ _ _ _=>(gu 2 qN.nd)) (λ_ _ _ _ _=>gO) (λ_ _ _ _ _=>(jE (aa 2) bL)))))) bp) (aq (aD (aa 1))))),?_];have la:=hw.area.2;refine#[_,Z,a,_,dx,_,_,Z,k1,Y.bI.cl,Y.me,Z,p,Z,#[_,aO.of k2.choose_spec.1],λD hD=>?_];refine OF (l:=aQ st.area) k2 la hD (λb Hc Q'=>#[λ#[_,e0,z]=>by cases e0;exact z,λz=>#[_,Z,z]]) (λH1 s1 e1=>?_);have Hq:=s1 _ _ k1;refine#[_,Z,a,_,dx,_,_,Z,Hq,Y.bI.cl,Y.iE,Z,_,Z,?_];have eI:gJ st=aQ st.area++rM st:=rfl;cases e:st.cond with
 | none=>
  rw[e] at k3;obtain rfl:wv=.cj:=k3;refine cH #[_,Z,q H1 D s1 hD ?_];rw[e1,eI,show rM st=[] from by unfold rM;rw[e],b5]
 | some c=>
  rw[e] at k3;obtain⟨p',rfl,k4⟩:=k3;have lc:=(hw.cond c e).2;have ec:rM st=aQ c:=by unfold rM;rw[e]
  refine cF #[_,Z,.inl #[Z,_,aO.of e1],_,Z,a,_,dx,_,_,Z,Hq,Y.bI.cl,Y.iE,Z,p',Z,#[_,aO.of (k4.same s1).choose_spec.1],λD2 JH=>?_];refine OF (l:=aQ c) (k4.same s1) lc JH (λb Hc Q'=>#[λ#[_,e0,z]=>by cases e0;exact z,λz=>#[_,Z,z]]) (λH2 s2 e2=>?_);have YL:=s2 _ _ e1;refine#[D,D2,_,_,Z,Z,YL,e2,?_,_,Z,q _ D (λb' o' fW=>?_) hD ?_]
  ·rw[ai,ai];show _<=2 ^ 24;lia
  ·rw[au (aI fW hD)];exact s2 _ _ (s1 _ _ fW)
  rw[ah,eI,ec,br]
def Vg (l:List Sp.Itm) (f:Sp.Itm->Bool):(l.map f).any id=l.any f:=by rw[List.any_map];rfl
inductive LR (vs:List V) (H:Hp) (Q:VK) (_:XK):Prop where
 | mk (a:Addr) (s:cC) (_:vs=[.ref a]) (_:du H a s) (_:g7 s) (_ :∀H',bo H H'->Q (.bl (o7 s)) H')
def Vh (pS:aK aL 1 T.kW (Io)):aK aL 2 T.jT (LR):=by
 refine Y.jT.F.run rY λbx A outer s H vs Q E hr h=>?_;obtain⟨a,st,rfl,hS,hw,q⟩:=h;refine#[_,(aj (bG (qK (w_or (Ab (aW (aa 0)) dB) (oX (dg (aW (aa 0)) (df Y.Fz))))) (aq (aD yk)) bp) (aq (aD (R6 Y.R9 rfl (lP [("word",1)] rfl rY.nd (fo (aJ Y.kW pS (hr.le rfl) aG (ae (aa 0) ao))) (dJ rfl) (λ_ _ _ _ _=>(gu 1 rY.nd)) (λ_ _ _ _ _=>gO) (λ_ _ _ _ _=>(Wq (aa 1) (mX Y.qP.m)))))))),?_];obtain⟨dx,p,wv,k1,_,_⟩:=id hS;have es:=JR hw;unfold fj at es;unfold o7 at q;refine#[_,Z,a,_,dx,_,_,Z,k1,Y.bI.cl,Y.dO,Z,Z,_,Z,?_];rw[es];cases e4:st.act == 4 with
 | false=>
  refine cF (cF ?_);have q':=q H (same_refl H);rw[show(st.act != 4)=true from by simp[bne,e4],w6,jN] at q';exact q'
 | true=>
  refine cH #[_,Z,a,_,dx,_,_,Z,k1,Y.bI.cl,Y.el,Z,Z,_,Z,bE (λc=>?_) (λc=>?_)]
  ·have c:=V.int.inj (of_decide_eq_true c)
   have q':=q H (same_refl H);rw[show(st.n == 0)=true from by simp;lia,jN,jN] at q';exact q'
  have c:st.n≠0:=λz=>c (by rw[z];rfl);rw[show(st.act != 4)=false from by simp[bne,e4],show(st.n == 0)=false from by simpa using c,qT,fE,<- aav] at q;refine#[_,Z,a,st,Z,hS,hw,λH1 q1 s1 n1 e1=>#[q1,Z,#[_,aO.of e1],λD hD=>?_]];have wl:=OB hw;refine LG (λv=>.bl (pf v SE)) (by rw[ai];lia) e1 hD (λi v Hc Q' hv sc q'=>?_) (λH2 s2 e2=>?_)
  ·rw[aA] at hv
   cases hb:(gJ st)[i]? with
   | none=>rw[hb] at hv;cases hv
   | some it=>
    rw[hb] at hv;cases hv;exact#[_,Z,T.qP,SE,Z,.inr (Y.qP.q Hc),Z,Z,q' Hc (same_refl Hc)]
  refine#[D,(gJ st).map GO,Z,aO.of ?_,?_]
  ·rw[e2,bB,bB]
   congr 2;apply cP;intro i hi;show V.bl (pf (F4 i) SE)=V.bl (GO i);rw[afl (Ri hw i hi)]
  rw[Vg];exact q H2 (s1.trans s2)
inductive LS (vs:List V) (H:Hp) (Q:VK) (_:XK):Prop where
 | mk (a:Addr) (s:cC) (_:vs=[.ref a]) (_:du H a s) (_:g7 s) (_ :∀H',bo H H'->Q (.bl (tY s)) H')
def Vi (pS:aK aL 1 T.kW (Io)):aK aL 2 T.jU (LS):=by
 refine Y.jU.F.run rZ λbx A outer s H vs Q E hr h=>?_;obtain⟨a,st,rfl,hS,hw,q⟩:=h;refine#[_,(aj (bG (HR (aW (aa 0)) (mX Y.vk.m)) (aq (aD yk)) bp) (aq (aD (R6 Y.R9 rfl (lP [("word",1)] rfl rZ.nd (fo (aJ Y.kW pS (hr.le rfl) aG (ae (aa 0) ao))) (dJ rfl) (λ_ _ _ _ _=>(gu 1 rZ.nd)) (λ_ _ _ _ _=>gO) (λ_ _ _ _ _=>(DD (Wq (aa 1) (mX Y.nU.m)) (nN (Wq (aa 1) (mX Y.fR.m)))))))))),?_];obtain⟨dx,p,wv,k1,_,_⟩:=id hS;have q :∀H',bo H H'->Q (.bl ((tK st).any Vbrgah.readsGround || iB st)) H':=q;refine#[_,Z,a,_,dx,_,_,Z,k1,Y.bI.cl,Y.dO,Z,T.vk,OE,Z,.inr (Y.vk.q H),Z,Z,_,Z,?_];show if pf (.str (iQ st.act)) OE=true then _ else _;rw[YY hw];refine bE (λc=>?_) (λc=>?_)
 ·have q':=q H (same_refl H)
  rw[c,jN] at q';exact q'
 rw[dz] at c;rw[c,fE,<- aaw] at q;refine#[_,Z,a,st,Z,hS,hw,λH1 q1 s1 n1 e1=>#[q1,Z,#[_,aO.of e1],λD hD=>?_]];have wl:=OB hw;refine LG (λv=>.bl (pf v OC || pf v OD)) (by rw[ai];lia) e1 hD (λi v Hc Q' hv sc q'=>?_) (λH2 s2 e2=>?_)
 ·rw[aA] at hv
  cases hb:(gJ st)[i]? with
  | none=>rw[hb] at hv;cases hv
  | some it=>
   rw[hb] at hv;cases hv;refine tq (b:=pf (F4 it) OC) (b':=pf (F4 it) OD) (λQ2 z2=>?_) (λQ2 z2=>?_) (q' Hc (same_refl Hc))
   ·exact#[_,Z,T.nU,OC,Z,.inr (Y.nU.q Hc),Z,Z,z2]
   exact#[_,Z,T.fR,OD,Z,.inr (Y.fR.q Hc),Z,Z,z2]
 refine#[D,(gJ st).map GP,Z,aO.of ?_,?_]
 ·rw[e2,bB,bB]
  congr 2;apply cP;intro i hi;show V.bl (pf (F4 i) OC || pf (F4 i) OD)=V.bl (GP i);rw[afm (Ri hw i hi)]
 rw[Vg];exact q H2 (s1.trans s2)
def OG (s t:cC):Bool:=(iB s&&o7 t) || (fj s&&tY t)
inductive LU (vs:List V) (H:Hp) (Q:VK) (_:XK):Prop where
 | mk (a b:Addr) (s t:cC) (_:vs=[.ref a,.ref b]) (_:du H a s) (_:g7 s) (_:du H b t) (_:g7 t) (_ :∀H',bo H H'->Q (.bl (OG s t)) H')
def Vj (tV:aK aL 2 T.jT (LR)) (tW:aK aL 2 T.jU (LS)) :
  aK aL 3 T.qz (LU):=by
 refine Y.qz.F.run O9 λbx A outer s H vs Q E hr h=>?_;obtain⟨a,b,st,t,rfl,hS,hw,Rj,Rk,q⟩:=h;refine#[_,(aj (bG (HR (aW (aa 0)) (mX Y.vk.m)) (aq (aD (aJ Y.jT tV (hr.le rfl) aG (ae (aa 1) ao)))) bp) (aj (bG (dg (aW (aa 0)) dB) (aq (aD (aJ Y.jU tW (hr.le rfl) aG (ae (aa 1) ao)))) bp) (aq (aD yk)))),?_];obtain⟨dx,p,wv,k1,_,_⟩:=id hS;have excl:iB st=true->fj st=false:=by
  unfold iB fj;intro h;simp at h ⊢
  lia
 refine#[_,Z,a,_,dx,_,_,Z,k1,Y.bI.cl,Y.dO,Z,T.vk,OE,Z,.inr (Y.vk.q H),Z,Z,_,Z,?_];show if pf (.str (iQ st.act)) OE=true then _ else _;rw[YY hw];unfold OG at q;refine bE (λc=>?_) (λc=>?_)
 ·rw[c,excl c,cT,dr,fE] at q
  exact#[_,Z,b,t,Z,Rj,Rk,q]
 rw[dz] at c;rw[c,dr,qT] at q;refine#[_,Z,a,_,dx,_,_,Z,k1,Y.bI.cl,Y.dO,Z,Z,_,Z,?_];rw[JR hw];refine bE (λc=>?_) (λc=>?_)
 ·rw[c,cT] at q
  exact#[_,Z,b,t,Z,Rj,Rk,q]
 rw[dz] at c;have q':=q H (same_refl H);rw[c,dr] at q';exact q'
def Vk (s t:cC):sR s t=(!(OG s t || OG t s)&&(!(fj s&&fj t) || s.n == t.n)):=by
 unfold sR OG;cases iB s <;> cases iB t <;> cases o7 s <;> cases o7 t <;> cases fj s <;> cases fj t <;> cases tY s <;> cases tY t <;> rfl
inductive Rl (vs:List V) (H:Hp) (Q:VK) (_:XK):Prop where
 | mk (a b:Addr) (s t:cC) (_:vs=[.ref a,.ref b]) (_:du H a s) (_:g7 s) (_:du H b t) (_:g7 t) (_ :∀H',bo H H'->Q (.bl (sR s t)) H')
def aax (zE:aK aL 3 T.qz (LU)):aK aL 4 T.jt (Rl):=by
 refine Y.jt.F.run ED λbx A outer s H vs Q E hr h=>?_;obtain⟨a,b,st,t,rfl,hS,hw,Rj,Rk,q⟩:=h;refine#[_,(aj (bG (qK (w_or (gD (aJ Y.qz zE (hr.le rfl) aG (ae (aa 0) (ae (aa 1) ao)))) (oX (gD (aJ Y.qz zE (hr.le rfl) aG (ae (aa 1) (ae (aa 0) ao))))))) (aq (aD yk)) bp) (aj (bG (qK (w_and (dg (aW (aa 0)) dB) (vR (dg (aW (aa 1)) dB)))) (aq (aD (HP (aW (aa 0)) (aW (aa 1))))) bp) (aq (aD yk)))),?_];rw[Vk] at q;refine#[_,Z,_,Z,a,b,st,t,Z,hS,hw,Rj,Rk,λH1 s1=>#[_,Z,bE (λc=>?_) (λc=>?_)]]
 ·have q':=q H1 s1
  rw[c,w6,EB,dr] at q';exact cF q'
 rw[dz] at c;rw[c,qT] at q;refine#[_,Z,_,Z,b,a,t,st,Z,du.same s1 Rj,Rk,du.same s1 hS,hw,λH2 s2=>#[_,Z,bE (λc=>?_) (λc=>?_)]]
 ·have q':=q H2 (s1.trans s2)
  rw[c,EB,dr] at q';exact q'
 rw[dz] at c;have q':=q H2 (s1.trans s2);rw[c,C5,cT] at q';obtain⟨dx,p,wv,k1,_,_⟩:=du.same s2 (du.same s1 hS);obtain⟨qQ,p2,wv2,k2,_,_⟩:=du.same s2 (du.same s1 Rj);refine#[_,Z,a,_,dx,_,_,Z,k1,Y.bI.cl,Y.dO,Z,Z,_,Z,?_];rw[JR hw];refine bE (λd=>?_) (λd=>?_)
 ·rw[d,cT] at q'
  refine#[_,Z,b,_,qQ,_,_,Z,k2,Y.bI.cl,Y.dO,Z,Z,_,Z,?_];rw[JR Rk];refine bE (λf=>?_) (λf=>?_)
  ·rw[f,EB,qT] at q'
   refine#[_,Z,a,_,dx,_,_,Z,k1,Y.bI.cl,Y.el,Z,_,Z,b,_,qQ,_,_,Z,k2,Y.bI.cl,Y.el,Z,Z,FV ?_ q'];rw[ib,decide_eq_true_iff,beq_iff_eq,V.int.injEq]
   lia
  rw[dz] at f;rw[f,C5,w6] at q';exact q'
 rw[dz] at d;rw[d,dr,C5,w6] at q';exact cH q'
def Vl (h:sp[i]?=some s):o8 sp i=(sp.drop (i+1)).map λt=>J4 (sR s t):=by
 unfold o8;obtain⟨hi,e⟩:=az.mp h;rw[<- gX hi,e]
def SG (sp:cz) (i:Nat):(o8 sp i).length<=sp.length:=by
 unfold o8;split
 ·exact bK _
 rename_i s r e;have z:=congrArg dA e;rw[dk,aV] at z;rw[ai]
 lia
def pairs_len (sp:cz) (i:Nat):((ba i).flatMap (o8 sp)).length<=sp.length * i:=by
 induction i with
 | zero=>simp
 | succ n ih=>
  rw[dQ,kg,ay,oM,mP];have:=SG sp n
  lia
inductive Rm (vs:List V) (H:Hp) (Q:VK) (_:XK):Prop where
 | mk (p:Addr) (as:List Addr) (sp:cz) (_:vs=[.ref p]) (_:H p=some (.lst (as.map V.ref))) (_:hZ H as sp) (_:(∀s∈sp,g7 s)) (_:sp.length<=301) (_:um (Bh sp) H Q)
def aay (sC:aK aL 4 T.jt (Rl)):aK aL 5 T.qZ (Rm):=by
 refine Y.qZ.F.run we λbx A outer s H vs Q E hr h=>?_;obtain⟨p,as,sp,rfl,hp,hS,hw,hl,q⟩:=h;refine#[_,(aj (aZ 1 we.nd (cO ao)) (aj (kJ PassesOwn.never rfl (nR Y.i8 (ir Y.iu (aa 0))) (gu 2 we.nd) (aq (kJ PassesOwn.never rfl (ac4 Y.i8 (iX (aa 2) bL) (ir Y.iu (aa 0))) (gu 3 we.nd) (aq (dC (qt (aa 1) (acE (gD (aJ Y.jt sC (hr.le rfl) aG (ae (bU (aa 0) (aa 2)) (ae (bU (aa 0) (aa 3)) ao)))) bL bL))))))) (aq (aD (aa 1))))),?_];have mh:as.length=sp.length:=hS.length;have JA:(as.map V.ref).length=sp.length:=by rw[ai];exact mh
 refine#[bK _,λD hD=>?_];have hpD:p≠D:=aI hp hD;refine#[_,Z,p,_,Z,.inl (aO.of (by rw[au hpD];exact hp)),_,Z,by lia,by rw[JA];lia,?_];rw[JA,cg];refine rW (λi σ Hc=>∃z1 z2,σ = [some (.ref p),some (.ref D),z1,z2]/\bo H Hc/\Hc D=some (.lst (vI ((ba i).flatMap (o8 sp))))) #[none,none,Z,aT hD _,ah] (λi σ Hc hi e=>?_) (λσ Hc e=>?_)
 ·obtain⟨z1,z2,rfl,sc,eD⟩:=e
  obtain⟨st,fk⟩ :∃st,sp[i]?=some st:=#[_,aw hi]
  obtain⟨a1,yu⟩ :∃a1,as[i]?=some a1:=#[_,aw (by lia)]
  obtain⟨jX,y1,YO⟩:=Paired.get hS yu;rw[fk] at y1;cases y1;have epn:=Vl fk;have lpn:(o8 sp i).length=sp.length - (i+1):=by rw[epn,ai,dk]
  have lp:=pairs_len sp i;have lp2:sp.length * i<=301 * 301:=xT hl (by lia);rw[wX];refine#[_,Z,_,_,Z,Z,_,Z,p,_,Z,.inl (aO.of (sc _ _ hp)),_,_,Z,Z,#[by lia,by lia,by lia,by rw[JA];lia],?_];rw[JA,show(((sp.length:Nat):Int) - (((i:Nat):Int)+1)).toNat=sp.length - (i+1) from by lia];refine rW (λj σ Hd=>∃z2,σ = [some (.ref p),some (.ref D),some (.int ((i:Nat):Int)),z2]/\bo H Hd/\Hd D=some (.lst (vI ((ba i).flatMap (o8 sp)++(o8 sp i).take j)))) #[z2,Z,sc,by rw[eD,List.take_zero,b5]] (λj σ Hd hj e=>?_) (λσ Hd e=>?_)
  ·obtain⟨z2,rfl,sd,eD⟩:=e
   have hjs:i+1+j < sp.length:=by lia
   obtain⟨tt,htt⟩ :∃tt,sp[i+1+j]?=some tt:=#[_,aw hjs]
   obtain⟨a2,JC⟩ :∃a2,as[i+1+j]?=some a2:=#[_,aw (by lia)]
   obtain⟨tt',y1,hA2⟩:=Paired.get hS JC;rw[htt] at y1;cases y1;have eix:((i:Nat):Int)+1+((j:Nat):Int)=((i+1+j:Nat):Int):=by lia
   have epj:(o8 sp i)[j]?=some (J4 (sR st tt)):=by
    rw[epn,aA,List.getElem?_drop,htt];rfl
   have di :∀(b:Bool) (H2:Hp),b=sR st tt->bo Hd H2->Nk (λ_ Hz=>∃N3,[some (V.ref p),some (V.ref D),some (V.int ((i:Nat):Int)),some (V.int (((i:Nat):Int)+1+((j:Nat):Int)))]=[some (V.ref p),some (V.ref D),some (V.int ((i:Nat):Int)),N3]/\bo H Hz/\Hz D=some (.lst (vI ((ba i).flatMap (o8 sp)++(o8 sp i).take (j+1))))) (.ref D) (V.int (J4 b)) H2:=by
    intro b H2 hb s2;refine#[D,_,Z,s2 _ _ eD,?_,_,Z,λb' o' fW=>?_,?_]
    ·rw[jw,ay,bJ];show _ < 2 ^ 24;lia
    ·rw[au (aI fW hD)];exact s2 _ _ (sd _ _ fW)
    rw[ah,bW,epj,hb,<- gm,AU _ (Option.toList _)];rfl
   refine#[_,Z,.inl #[Z,_,aO.of eD],_,Z,_,Z,p,_,_,V.ref a1,Z,Z,aO.of (sd _ _ hp),b8 (j:=i) (by rw[aA,yu];rfl),_,Z,_,Z,p,_,_,V.ref a2,Z,Z,aO.of (sd _ _ hp),(by rw[eix];exact b8 (j:=i+1+j) (by rw[aA,JC];rfl)),a1,a2,st,tt,Z,du.same sd YO,hw st (aP fk),du.same sd hA2,hw tt (aP htt),λH2 s2=>#[_,Z,bE (λc=>?_) (λc=>?_)]]
   ·exact di true H2 c.symm s2
   exact di false H2 (by rw[dz] at c;exact c.symm) s2
  obtain⟨z2,rfl,sd,eD⟩:=e;refine#[_,_,Z,sd,?_];rw[eD,<- lpn,cq,dQ,kg,oM]
 obtain⟨z1,z2,rfl,sc,eD⟩:=e;rw[<- BY] at eD;exact#[_,Z,q Hc D sc hD eD]
theorem um.on (h:um l H Q) (s:bo H H1):um l H1 Q:=λH' q h1 h2 h3=>h H' q (s.trans h1) (s.free h2) h3
def Ip (hl:b.length<=300) (h:gM b=.ok sp):sp.length<=301/\∀s∈sp,g7 s:=by
 have FK:=xE b.length 0 b (aN _);rw[<- tZ] at FK;rw[zS] at h;have z:=NX 301 _ sp (by lia) (aN _) h;exact#[z.1,z.2.2]
def LV (h :∀s∈sp,g7 s):(eK sp).length<=12102 * sp.length:=by
 induction sp with
 | nil=>exact bK _
 | cons s r ih=>
  have h1:=NZ (h s (by simp));have h2:=ih λx hx=>h x (by simp[hx]);cases r with
  | nil=>show(dn s).length<=_;simp;lia
  | cons x q=>
   show(dn s++(bw "; " ++ eK (x::q))).length<=_;rw[ay,ay];have:(bw "; ").length=2:=rfl;simp only[aV] at h2 ⊢
   lia
inductive Rn (vs:List V) (H:Hp) (Q:VK) (_:XK):Prop where
 | mk (p:Addr) (as:List Addr) (sp:cz) (_:vs=[.ref p]) (_:H p=some (.lst (as.map V.ref))) (_:hZ H as sp) (_:(∀s∈sp,g7 s)) (_:sp.length<=301) (_:um (bT (dw (eK sp))) H Q)
def aaz (gL:aK aL 1 T.iy (AV)) (AX:aK aL 6 T.pE (N1)) :
  aK aL 7 T.qB (Rn):=by
 refine Y.qB.F.run B9 λbx A outer s H vs Q E hr h=>?_;obtain⟨sl,as,sp,rfl,e1,e2,zd,hn,q⟩:=h;refine#[_,(aq (aD (aJ Y.iy gL (hr.le rfl) aG (ae (lP [("sign",1)] rfl B9.nd (ae1 (aJ Y.pE AX (hr.le rfl) aG (ae (aa 0) ao))) (dJ rfl) (λ_ _ _ _ _=>(gu 1 B9.nd)) (λ_ _ _ _ _=>gO) (λ_ _ _ _ _=>(aeX Y.ae6 (aa 1)))) ao)))),?_];have iT:=LV zd;refine#[_,Z,sl,as,sp,Z,e1,e2,zd,hn,λH2 s2=>?_];refine#[_,Z,λD hD=>?_];have ahz:(sb (eK sp)).cps.size=(eK sp).length:=by unfold sb;simp
 refine acU (λi H'=>bo H2 H'/\H' D=some (.lst (vI (dw ((eK sp).take i))))) #[aT hD _,ah] (λi c H' hc e=>?_) (λH3 e=>?_)
 ·have Cw:(eK sp)[i]?=some c:=by
   unfold sb at hc;simpa using hc
  have hi:=(az.mp Cw).1;refine#[Z,xD ?_];refine#[_,Z,_,Z,Z,_,e.2,?_,λb' o' fW=>?_,?_]
  ·rw[jw]
   unfold dw;rw[ai,bJ];show _ < 2 ^ 24
   lia
  ·rw[au (aI fW hD)];exact e.1 _ _ fW
  rw[ah,bW,Cw];unfold dw;rw[br,AU];rfl
 obtain⟨s3,eD⟩:=e;rw[ahz,cq] at eD;refine#[D,_,Z,eD,?_,q.on (s2.trans s3)];unfold dw;rw[ai];lia
theorem kM (h:l[i]?=some c):w8 (vI l) (i:Nat)=some (.int c):=b8 (j:=i) (by unfold vI;rw[aA,h];rfl)
inductive OH (vs:List V) (H:Hp) (Q:VK) (_:XK):Prop where
 | mk (a g bl np:Addr) (bs:List Addr) (L:aE) (nx n:Nat) (x y:Int) (_:vs=[.ref a,.ref np]) (_:dh H a g bl bs L nx) (_:H np=some (.lst (vI [(n:Int),x,y]))) (_:((bM L n).isNone=true\/bV L (x,y)=false->Q .cj H)) (_:(∀(H':Hp) (m:Addr) (i:Nat) (cR:Addr) (be:aU),bo H H'->H m=none->bs[i]?=some cR->L.beings[i]?=some be->be.number=n->bM L n=some be->bV L (x,y)=true->Cn H' m a cR be (x,y)->Q (.ref m) H'))
def ad0 (c9:aK aL 1 T.ck (uk)) (jl:aK aL 1 T.fQ (DS))
  (D0:wu aL 1 T.bZ (Ht)):aK aL 3 T.sm (OH):=by
 refine Y.sm.F.run Lr λbx A outer s H vs Q E hr h=>?_;obtain⟨a,g,bl,np,bs,L,nx,n,x,y,rfl,hL,hn,q1,q2⟩:=h;refine#[_,(aj (aZ 2 Lr.nd (eQ Y.ck Y.aM.cl c9 (hr.le rfl) aG (aa 0) (ae (bU (aa 1) bL) ao))) (aj (bG (qK (w_or (sX (aa 2)) (oX (uz (gD (eQ Y.fQ Y.aM.cl jl (hr.le rfl) aG (aa 0) (ae (bU (aa 1) bL) (ae (bU (aa 1) bL) ao)))))))) (aq (aD Lk)) bp) (aq (aD (vU Y.bZ.ug Y.bZ.b Y.bZ.m D0 (hr.le rfl) aG (ae (aa 0) (ae (aa 2) (ae (bU (aa 1) bL) (ae (bU (aa 1) bL) ao))))))))),?_];obtain⟨ez,ha⟩:=hL.lv;refine#[_,Z,a,ez,_,Z,ha,j7,_,Z,np,_,_,_,Z,Z,aO.of hn,kM (i:=0) rfl,a,g,bl,bs,L,nx,n,Z,hL,λi cR be hb hs hf=>?_,λhf=>?_]
 ·refine#[_,Z,_,Z,cH ?_]
  refine#[_,Z,a,ez,_,Z,ha,xA,_,Z,np,_,_,_,Z,Z,aO.of hn,kM (i:=1) rfl,_,Z,np,_,_,_,Z,Z,aO.of hn,kM (i:=2) rfl,a,g,bl,bs,L,nx,x,y,Z,hL,_,Z,?_];cases hi:bV L (x,y) with
  | false=>exact cF (q1 (.inr hi))
  | true=>
   refine cH ?_;refine#[_,Z,_,Z,_,Z,np,_,_,_,Z,Z,aO.of hn,kM (i:=1) rfl,_,Z,np,_,_,_,Z,Z,aO.of hn,kM (i:=2) rfl,λm dx hm iV cG=>?_];refine#[m,dx,_,_,_,_,Z,ah,Z,?_];rw[ij];have sS:=jv hm iV cG (.own m) (.ins T.bZ.C dx (DJ (.ref a) (.ref cR) (.int x) (.int y)));obtain⟨be',e,fO,hB⟩:=Paired.get hL.be hb;rw[hs] at e;cases e;have wD:be.number=n:=by simpa using List.find?_some hf
   exact q2 _ m i cR be sS hm hb hs wD hf hi #[#[dx,ah],#[fO,sS _ _ hB]]
 refine#[_,Z,_,Z,cF (cF ?_)];refine q1 (.inl ?_);unfold bM;rw[hf];rfl
def Ro (hl:b.length<=300) (h:eZ b=.ok a):nJ a/\(aQ a).length<=1000:=by
 have FK:=xE b.length 0 b (aN _);rw[<- tZ] at FK;unfold eZ at h;split at h
 ·cases h
 rename_i a' r e;rw[pZ] at e;have i2:=eu _ _ _ _ _ _ _ e;simp at i2;have w2:=Sq e #[by decide,by decide,.inl rfl];split at h
 ·cases h
  exact#[w2,by lia]
 unfold cV at h;cases h
def yy (l:List Int):(vI (bT l)).length=l.length+1:=by rw[jw];rfl
def GC (c:bc):List Int:=[c.1,c.2]
def SH (hw:Sp.WF L) (p:bc->Bool):((ba (L.w * L.h)).filter λi=>p (Sp.cellAt L.w i)).flatMap (λi=>GC (Sp.cellAt L.w i))=((iO L).filter p).flatMap λc=>[c.1,c.2]:=by
 rw[oj L hw.lZ,BN,List.flatMap_map];rfl
inductive OI (vs:List V) (H:Hp) (Q:VK) (_:XK):Prop where
 | mk (p np a g bl:Addr) (bs:List Addr) (L:aE) (nx n:Nat) (x y:Int) (b:List Nat) (_:vs=[.ref a,.ref np,.ref p]) (_:dh H a g bl bs L nx) (_:Sp.WF L) (_:ke L) (_:H np=some (.lst (vI [(n:Int),x,y]))) (_:H p=some (.lst (vi b))) (_:b.length<=300) (_:um (if(bM L n).isNone=true\/bV L (x,y)=false then [-3] else match eZ b with | .error _=>[-4] | .ok ar=>0::bT ((kD L (gT L #[n,(x,y)]) ar).flatMap λc=>[c.1,c.2])) H Q)
def Xn (xP:aK aL 3 T.sm (OH)) (vx:aK aL 47 T.qi (KG)) (jI:aK aL 5 T.jg (BH))
  (gL:aK aL 1 T.iy (AV)):aK aL 49 T.rl (OI):=by
 refine Y.rl.F.run px λbx A outer s H vs Q E hr h=>?_;obtain⟨p,np,a,g,bl,bs,L,nx,n,x,y,b,rfl,hL,hw,hd,hn,hp,hl,q⟩:=h;refine#[_,(aj (aZ 3 px.nd (aJ Y.sm xP (hr.le rfl) aG (ae (aa 0) (ae (aa 1) ao)))) (aj (bG (sX (aa 3)) (aq (aD (cO (ae (df Y.xZ) ao)))) bp) (aj (aZ 4 px.nd (aJ Y.qi vx (hr.le rfl) aG (ae (aa 2) ao))) (aj (bG (sX (aa 4)) (aq (aD (cO (ae (df Y.DM) ao)))) bp) (aj (aZ 5 px.nd (aJ Y.jg jI (hr.le rfl) aG (ae (aa 4) (ae (aa 3) ao)))) (aj (aZ 6 px.nd (cO ao)) (aj (kJ PassesOwn.never rfl (nR Y.i8 (ir Y.iu (aa 5))) (gu 7 px.nd) (aq (bG (gD (bU (aa 5) (aa 7))) (aq (dC (DE (aa 6) (cO (ae (Gp (aa 7) (aW (aa 0))) (ae (Jd (aa 7) (aW (aa 0))) ao)))))) bp))) (aq (aD (l8 (cO (ae bL ao)) (aJ Y.iy gL (hr.le rfl) aG (ae (aa 6) ao)))))))))))),?_];have FU:=WF.small hw;have wC:=hw.lZ;refine#[_,Z,_,Z,a,g,bl,np,bs,L,nx,n,x,y,Z,hL,hn,λiU=>?_,λH1 m i cR be s1 n1 hb hs wD Vm il hA=>?_]
 ·rw[if_pos iU] at q
  refine#[_,Z,_,Z,cF #[fB 1,λq1 de=>?_]];exact q _ q1 (aT de _) de ah
 rw[if_neg (by rw[Vm,il];simp)] at q;refine#[_,Z,_,Z,cH ?_];refine#[_,Z,p,b,Z,s1 _ _ hp,by lia,?_];cases e:eZ b with
 | error z=>
  rw[e] at q;intro H2 s2;refine#[_,Z,_,Z,cF #[fB 1,λq1 de=>?_]];exact q _ q1 (s1.trans (s2.trans (aT de _))) (s1.free (s2.free de)) ah
 | ok ar=>
  rw[e] at q;obtain⟨wa,la⟩:=Ro hl e;obtain⟨DU,_⟩:=Ou hw hs (x,y);rw[wD] at DU;have q:um (0::bT ((kD L (gT L ⟨n,(x,y)⟩) ar).flatMap λc=>[c.1,c.2])) H Q:=q;rw[DU,jd wC (m:=#[be.at_,be.side,(x,y)]) il,<- SH hw] at q;intro H2 pa s2 n2 hAr;have O:On H2 m a g bl bs cR L nx be (x,y):=#[hA.same s2,(hL.same s1).same s2,hw,yw hw (hw.ins be (aP hs)),yw hw il]
  refine#[_,Z,_,Z,cH ?_];refine#[_,Z,_,Z,pa,m,a,g,bl,bs,cR,L,nx,be,(x,y),ar,Z,hAr,wa,la,O,hd,λH3 pc s3 n3 e3=>?_];generalize hpp:has L #[be.at_,be.side,(x,y)] ar=pp at *;refine#[bK _,λD hD=>?_];have sD:=aT hD (.lst []);have O3:=(O.same s3).same sD;obtain⟨dx3,ha3⟩:=O3.lv.lv;have amK:pc≠D:=aI e3 hD;refine#[_,Z,pc,_,Z,.inl (aO.of (sD _ _ e3)),_,Z,by lia,by rw[kZ,gs];lia,?_];rw[kZ,gs,cg];refine rW (λi σ Hc=>(∃z,σ = [some (.ref a),some (.ref np),some (.ref p),some (.ref m),some (.ref pa),some (.ref pc),some (.ref D),z])/\bo H3 Hc/\Hc D=some (.lst (vI (((ba i).filter λi=>pp (Sp.cellAt L.w i)).flatMap λi=>GC (Sp.cellAt L.w i))))) #[#[none,Z],sD,ah] (λi σ Hc hi e=>?_) (λσ Hc e=>?_)
  ·obtain⟨⟨z,rfl⟩,sc,eD⟩:=e
   obtain⟨nW,QU⟩:=((O.same s3).same sc).lv.lv;have lim:(((ba i).filter λi=>pp (Sp.cellAt L.w i)).flatMap λi=>GC (Sp.cellAt L.w i)).length<=1000:=by
    have l1:=cY (λi=>pp (Sp.cellAt L.w i)) (ba i);rw[jW] at l1;rw[jb];have z:=yt (l:=((ba i).filter λi=>pp (Sp.cellAt L.w i)).map λi=>(GC (Sp.cellAt L.w i)).length) (n:=2) (λx hx=>by obtain⟨y,_,rfl⟩:=bX.mp hx;exact aN 2);rw[ai] at z
    lia
   rw[wX];refine#[_,Z,_,Z,pc,_,_,_,Z,Z,aO.of (sc _ _ e3),uD (uZ hi),_,Z,bE (λc=>?_) (λc=>?_)]
   ·refine#[_,Z,.inl #[Z,_,aO.of eD],_,Z,_,Z,a,_,nW,_,_,Z,QU,Y.aM.cl,Y.dW,Z,_,_,Z,Z,by lia,_,Z,_,Z,a,_,nW,_,_,Z,QU,Y.aM.cl,Y.dW,Z,_,_,Z,Z,#[by lia,by have:=hw.w1;lia],fB 2,λq2 wH=>?_]
    obtain⟨m1,m2⟩:=DT hw i;have sN:=aT wH (.lst [V.int (((i:Nat):Int) % ((L.w:Nat):Int)),V.int (((i:Nat):Int) / ((L.w:Nat):Int))]);refine#[D,q2,_,_,Z,Z,sN _ _ eD,ah,?_,#[_,Z],λb' o' fW=>?_,?_]
    ·rw[jw];exact sz (by show _+2<=_;lia)
    ·rw[au (aI fW hD)];exact sN _ _ (sc _ _ fW)
    rw[ah,dQ,dI,kg,AU,cK,if_pos c,lJ,oM];show some (HO.lst (_++[V.int (((i:Nat):Int) % ((L.w:Nat):Int)),V.int (((i:Nat):Int) / ((L.w:Nat):Int))]))=_;rw[m1,m2];rfl
   refine#[#[_,Z],sc,?_];rw[eD,dQ,dI,cK,if_neg c,lJ,b5]
  obtain⟨⟨z,rfl⟩,sc,eD⟩:=e;have lim:(((ba (L.w * L.h)).filter λi=>pp (Sp.cellAt L.w i)).flatMap λi=>GC (Sp.cellAt L.w i)).length<=1000:=by
   have l1:=cY (λi=>pp (Sp.cellAt L.w i)) (ba (L.w * L.h));rw[jW] at l1;rw[jb];have z:=yt (l:=((ba (L.w * L.h)).filter λi=>pp (Sp.cellAt L.w i)).map λi=>(GC (Sp.cellAt L.w i)).length) (n:=2) (λx hx=>by obtain⟨y,_,rfl⟩:=bX.mp hx;exact aN 2);rw[ai] at z
   lia
  refine#[fB 1,λq0 AY=>?_];have s0:=aT AY (.lst [.int 0]);refine#[_,Z,D,_,Z,s0 _ _ eD,by lia,λH4 rw4 s4 n4 e4=>?_];have sA:bo H Hc:=s1.trans (s2.trans (s3.trans sc));refine#[q0,rw4,_,_,Z,Z,s4 _ _ ah,e4,?_,λq5 LW=>?_]
  ·rw[yy]
   show 1+(_+1)<=2 ^ 24
   lia
  refine q _ q5 (sA.trans (s0.trans (s4.trans (aT LW _)))) (sA.free (s0.free (s4.free LW))) ?_;rw[ah];rfl
def aaA (h1 :∀Q':Bool->Hp->Prop,Q' b H->t σ H Q') (h2:b=true->∀Q':Bool->Hp->Prop,Q' b' H->u σ H Q') (h:Q (b&&b') H):RA t u σ H Q:=by
 refine h1 _ ?_;cases b with
 | true=>exact cF (h2 rfl _ h)
 | false=>exact cH h
theorem Xo (h1 :∀Q':Bool->Hp->Prop,Q' b1 H->t σ H Q') (h2:b1=true->∀Q':Bool->Hp->Prop,Q' b2 H->u σ H Q') (h:if(b1&&b2)=true then a { D with nx:=c D } σ H else b { D with nx:=c D } σ H):rC (HH (RA t u) a b) c D σ H:=
 aaA h1 h2 h
theorem aaB (h:D.nx σ H):Dk D σ H:=h
theorem um.lit (h:um l H Q) (s:bo H H1) (hq:H1 q1=none):Q (.ref q1) (aX H1 q1 (.lst (vI l))):=h _ q1 (s.trans (aT hq _)) (s.free hq) ah
inductive OJ (vs:List V) (H:Hp) (Q:VK) (_:XK):Prop where
 | mk (p:Addr) (b:List Nat) (_:vs=[.ref p]) (_:H p=some (.lst (vi b))) (_:b.length<=300) (_:um (match gM b with | .error e=>[0,(e.1:Int),(e.2:Int)] | .ok _=>[0,0,0]) H Q)
def Xp (pR:aK (gC P w) 47 T.kY (Ic)):aK aL 48 T.pG (OJ):=by
 refine Y.pG.F.run Em λbx A outer s H vs Q E hr h=>?_;obtain⟨p,b,rfl,hp,hl,q⟩:=h;refine#[_,(aj (ac8 1 Y.nB rfl rfl Y.vm Y.kY pR (hr.le rfl) (ae (aa 0) ao) Em.nd (λ_=>(aq (aD (cO (ae bL (ae (ac9 Y.nB (by decide) (aa 1)) (ae (ac9 Y.nB (by decide) (aa 1)) ao)))))))) (aq (aD (cO (ae bL (ae bL (ae bL ao))))))),?_];refine#[_,Z,p,b,Z,hp,by lia,?_];cases e:gM b with
 | ok sp=>
  rw[e] at q;intro H' q' as h1 h2 h3 h4;exact#[fB 3,λq1 de=>q.lit h1 de]
 | error z=>
  rw[e] at q;intro dx H' s1 hd;refine#[Z,λx qH ed hx=>?_];cases ed;have s2:=aT hx (.ext (XF x T.xC dx));have Cz:=s2 _ _ hd;refine#[_,Z,x,dx,_,_,Z,ah,Cz,Z,_,Z,x,dx,_,_,Z,ah,Cz,Z,fB 3,λq1 de=>?_];exact q.lit (s1.trans s2) de
inductive LX (vs:List V) (H:Hp) (Q:VK) (_:XK):Prop where
 | mk (p a g bl:Addr) (bs:List Addr) (L:aE) (nx:Nat) (b:List Nat) (_:vs=[.ref a,.ref p]) (_:dh H a g bl bs L nx) (_:Sp.WF L) (_:H p=some (.lst (vi b))) (_:b.length<=300) (_:um (match eZ b with | .error _=>[-4] | .ok ar=>[0,(jh L.w L.h ar:Int)]) H Q)
def Vn (vx:aK aL 47 T.qi (KG)) (pN:aK aL 2 T.kU (FR)) :
  aK aL 48 T.pH (LX):=by
 refine Y.pH.F.run En λbx A outer s H vs Q E hr h=>?_;obtain⟨p,a,g,bl,bs,L,nx,b,rfl,hL,hw,hp,hl,q⟩:=h;refine#[_,(aj (aZ 2 En.nd (aJ Y.qi vx (hr.le rfl) aG (ae (aa 1) ao))) (aj (bG (sX (aa 2)) (aq (aD (cO (ae (df Y.DM) ao)))) bp) (aq (aD (cO (ae bL (ae (aJ Y.kU pN (hr.le rfl) aG (ae (aa 2) (ae (aW (aa 0)) (ae (aW (aa 0)) ao)))) ao))))))),?_];refine#[_,Z,p,b,Z,hp,by lia,?_];cases e:eZ b with
 | error z=>
  rw[e] at q;intro H1 s1;exact#[_,Z,_,Z,cF #[fB 1,λq1 de=>q.lit s1 de]]
 | ok ar=>
  rw[e] at q;obtain⟨wa,la⟩:=Ro hl e;intro H1 pa s1 n1 e1;obtain⟨ez,ha⟩:=(hL.same s1).lv;have:=hw.w0;have:=hw.w1;have:=hw.h0;have:=hw.h1;refine#[_,Z,_,Z,cH ?_];refine#[_,Z,_,Z,a,_,ez,_,_,Z,ha,Y.aM.cl,Y.dW,Z,_,Z,a,_,ez,_,_,Z,ha,Y.aM.cl,Y.iM,Z,pa,ar,L.w,L.h,Z,e1,wa,la,by lia,by lia,by lia,by lia,λH2 s2=>?_];exact#[fB 2,λq1 de=>q.lit (s1.trans s2) de]
inductive LY (vs:List V) (H:Hp) (Q:VK) (_:XK):Prop where
 | mk (i lo hi:Int) (b:Addr) (_:vs=[.int i,.ref b]) (_:gN K H b [.int lo,.int hi]) (_:Q (.bl (aY i lo hi)) H)
def Vo:aK aL 1 T.oz (LY):=by
 refine Y.oz.F.run Nt λbx A outer s H vs Q E hr h=>?_;obtain⟨i,lo,hi,b,rfl,hb,q⟩:=h;refine#[_,(aq (aD (T9 (jE (aa 1) bL) (aa 0) (jE (aa 1) bL)))),?_];unfold aY at q;refine#[_,Z,b,_,_,_,Z,Z,hb,b8 (j:=0) rfl,_,Z,_,_,Z,Z,_,Z,bE (λc=>?_) (λc=>?_)]
 ·rw[c,cT] at q
  exact#[_,Z,b,_,_,_,Z,Z,hb,b8 (j:=1) rfl,_,_,Z,Z,q]
 rw[dz] at c;rw[c,dr] at q;exact q
def sE (p:Nat):List (Int × Int):=if p=0 then [(2,12),(2,12)] else if p=1 then [(0,11),(0,11),(1,1000),(1,1000),(0,1000000),(0,3)] else if p=5\/p=6\/p=7 then [(1,1000),(0,11),(0,11)] else if p=12 then [(1,1000)] else []
def l9 (p:Nat):Option (Int × Int):=if p=0 then some (0,4) else if p=1\/11<=p then none else some (0,255)
open PySem.W (WData)
def pairD (r:Int × Int):WData:=.tuple [.int r.1,.int r.2]
def ahA:Option (Int × Int)->WData
 | none=>.none
 | some r=>pairD r
def YZ (p:Nat):WData:=.tuple [.tuple ((sE p).map pairD),ahA (l9 p)]
theorem F5 :∀{xs:List V} {ds:List WData},oW K H xs ds->∀{i:Nat} {d:WData},ds[i]?=some d->∃v,xs[i]?=some v/\Dw K H v d
 | _,_,.nil,_,_,e=>by simp at e
 | _,_,.cons h r,0,_,e=>by cases e;exact#[_,Z,h]
 | _,_,.cons h r,i+1,d,e=>F5 r (i:=i) e
theorem LZ :∀{xs:List V} {ds:List WData},oW K H xs ds->xs.length=ds.length
 | _,_,.nil=>rfl
 | _,_,.cons _ r=>by rw[aV,aV,LZ r]
def JS (h:Dw K H v (.tuple ds)) :∃a xs,v=.ref a/\gN K H a xs/\oW K H xs ds:=by
 cases h with
 | tup h1 h2=>exact#[_,_,Z,h1,h2]
def Rp (h:Dw K H v (pairD r)) :∃a,v=.ref a/\gN K H a [.int r.1,.int r.2]:=by
 obtain⟨a,xs,rfl,h1,h2⟩:=JS h;cases h2 with
 | cons a1 r1=>
  cases r1 with
  | cons a2 r2=>
   cases r2;cases a1;cases a2;exact#[a,Z,h1]
def AZ (H:Hp) (hp:p < 15) :∃(xs rs:List V) (c r:Addr) (rv:V),gN K H T.iL xs/\xs[p]?=some (V.ref c)/\gN K H c [.ref r,rv]/\gN K H r rs/\rs.length=(sE p).length/\
  (∀(k:Nat) (x:Int × Int),(sE p)[k]?=some x->∃b,rs[k]?=some (V.ref b)/\gN K H b [.int x.1,.int x.2])/\(match l9 p with
   | none=>rv=.cj
   | some x=>∃b,rv=.ref b/\gN K H b [.int x.1,.int x.2]):=by
 have h:Dw K H (.ref T.iL) (.tuple ((ba 15).map YZ)):=Y.iL.q H;obtain⟨a,xs,e,h1,h2⟩:=JS h;cases e;obtain⟨v,hv,h3⟩:=F5 h2 (i:=p) (d:=YZ p) (by rw[aA,fc hp];rfl);obtain⟨c,ys,rfl,h4,h5⟩:=JS h3;cases h5 with
 | cons a1 r1=>
  cases r1 with
  | @cons rv _ _ _ a2 r2=>
   cases r2;obtain⟨r,rs,rfl,h6,h7⟩:=JS a1;refine#[xs,rs,c,r,rv,h1,hv,h4,h6,?_,λk x hx=>?_,?_]
   ·rw[LZ h7,ai]
   ·obtain⟨b,hb,h8⟩:=F5 h7 (i:=k) (d:=pairD x) (by rw[aA,hx];rfl)
    obtain⟨b',rfl,h9⟩:=Rp h8;exact#[b',hb,h9]
   cases e:l9 p with
   | none=>
    rw[e] at a2;cases a2;rfl
   | some x=>
    rw[e] at a2;obtain⟨b',rfl,h9⟩:=Rp a2;exact#[b',Z,h9]
def JT (p:Nat) (i:Int):Bool:=match l9 p with
 | none=>true
 | some x=>aY i x.1 x.2
def uT (p:Nat) (ns:List Int):Bool:=(ns.zip (sE p)).all λx=>aY x.1 x.2.1 x.2.2
def nZ (p:Nat) (ns row:List Int):Bool:=if p=1 then decide (ns.getD 2 0<=ns.getD 3 0) else(p != 0 || decide ((row.length:Int)=ns.getD 0 0 * ns.getD 1 0))&&row.all (JT p)
inductive Vp (vs:List V) (H:Hp) (Q:VK) (_:XK):Prop where
 | mk (p:Nat) (np rp:Addr) (ns row:List Int) (_:vs=[.int (p:Nat),.ref np,.ref rp]) (_:p < 15) (_:H np=some (.lst (vI ns))) (_:ns.length=(sE p).length) (_:H rp=some (.lst (vI row))) (_:row.length<=300) (_:(l9 p=none->row=[])) (_ :∀H',bo H H'->Q (.bl (uT p ns&&nZ p ns row)) H')
def ad2 (ya:aK aL 1 T.oz (LY)):aK aL 2 T.nu (Vp):=by
 refine Y.nu.F.run pw λbx A outer s H vs Q E hr h=>?_;obtain⟨p,np,rp,ns,row,rfl,hp,hn,CY,F6,CZ,iU,q⟩:=h;refine#[_,(aj (aZ 3 pw.nd (jE (jE (mX Y.iL.m) (aa 0)) bL)) (aj (kJ PassesOwn.never rfl (nR Y.i8 (ir Y.iu (aa 1))) (gu 4 pw.nd) (aq (bG (uz (gD (aJ Y.oz ya (hr.le rfl) aG (ae (bU (aa 1) (aa 4)) (ae (jE (aa 3) (aa 4)) ao))))) (aq (aD yk)) bp))) (aj (bG (dg (aa 0) (df Y.Hn)) (aq (aD (ahe (bU (aa 1) bL) (bU (aa 1) bL)))) bp) (aj (bG (qK (w_and (dg (aa 0) (df Y.FA)) (vR (Ab (ir Y.iu (aa 2)) (mT (bU (aa 1) bL) (bU (aa 1) bL)))))) (aq (aD yk)) bp) (aj (bG (Kh (ir Y.iu (aa 2)) (df Y.NC)) (aq (aD yk)) bp) (aq (aD (aeZ Y.ae5 rfl (lP [("number",5)] rfl pw.nd (fo (aa 2)) (dJ rfl) (λ_ _ _ _ _=>(gu 5 pw.nd)) (λ_ _ _ _ _=>gO) (λ_ _ _ _ _=>(aJ Y.oz ya (hr.le rfl) aG (ae (aa 5) (ae (jE (jE (mX Y.iL.m) (aa 0)) bL) ao))))))))))))),?_];obtain⟨xs,rs,c,r,rv,c1,c2,c3,c4,c5,c6,c7⟩:=AZ H hp;have hrn:(sE p).length<=6:=by unfold sE;split <;> (try split) <;> (try split) <;> (try split) <;> simp
 refine#[_,Z,T.iL,_,_,_,Z,Z,c1,b8 (j:=p) c2,c,_,_,_,Z,Z,c3,b8 (j:=0) rfl,?_];refine#[_,Z,np,_,Z,.inl (aO.of hn),_,Z,by lia,by rw[jw];lia,?_];rw[jw,cg];refine rW (λi σ Hc=>(∃z1 z2,σ = [some (.int (p:Nat)),some (.ref np),some (.ref rp),some (.ref r),z1,z2])/\Hc=H/\((ns.zip (sE p)).take i).all (λx=>aY x.1 x.2.1 x.2.2)=true) #[#[none,none,Z],Z,Z] (λi σ Hc hi e=>?_) (λσ Hc e=>?_)
 ·obtain⟨⟨z1,z2,rfl⟩,rfl,ea⟩:=e
  rw[wX];obtain⟨n,D6⟩ :∃n,ns[i]?=some n:=#[_,aw hi]
  obtain⟨x,hx⟩ :∃x,(sE p)[i]?=some x:=#[_,aw (by lia)]
  obtain⟨b,hb,h9⟩:=c6 i x hx;have hz:(ns.zip (sE p))[i]?=some (n,x):=MH D6 hx;refine#[_,Z,_,Z,np,_,_,_,Z,Z,aO.of hn,kM D6,_,Z,_,Z,r,_,_,_,Z,Z,c4,b8 (j:=i) hb,n,x.1,x.2,b,Z,h9,_,Z,?_];refine bE (λd=>?_) (λd=>?_)
  ·have q':=q Hc (same_refl Hc)
   have hf:uT p ns=false:=by
    unfold uT;rw[List.all_eq_false];exact#[_,aP hz,by simpa using d]
   rw[hf,dr] at q';exact q'
  refine#[#[_,_,Z],Z,?_];rw[bW,hz,List.all_append,ea];simpa using d
 obtain⟨⟨z1,z2,rfl⟩,rfl,ea⟩:=e;rw[oJ (by rw[BO];lia)] at ea;have Tv:uT p ns=true:=ea;rw[Tv,cT] at q;have at_ :∀k,k < ns.length->∃n,ns[k]?=some n/\ns.getD k 0=n:=λk hk=>#[ns[k],aw hk,by rw[bY,aw hk];rfl]
 unfold nZ at q;refine#[_,Z,Z,_,Z,bE (λd=>?_) (λd=>?_)]
 ·have d:p=1:=by have:=V.int.inj (of_decide_eq_true d);lia
  subst d;rw[if_pos rfl] at q;have l6:ns.length=6:=CY;obtain⟨n2,a2,b2⟩:=at_ 2 (by lia);obtain⟨n3,a3,b3⟩:=at_ 3 (by lia);rw[b2,b3] at q;exact#[_,Z,np,_,_,_,Z,Z,aO.of hn,kM a2,_,Z,np,_,_,_,Z,Z,aO.of hn,kM a3,_,_,Z,Z,q _ (same_refl _)]
 have d:p≠1:=λz=>d (by rw[z];rfl);rw[if_neg d] at q;refine aaB ?_;dsimp only;refine Xo (b1:=decide (p=0)) (b2:=!decide ((row.length:Int)=ns.getD 0 0 * ns.getD 1 0)) (λQ' z=>#[_,Z,Z,_,Z,?_]) (λhb Q' z=>?_) ?_
 ·have e0:decide (V.int ((p:Nat):Int)=V.int 0)=decide (p=0):=decide_eq_decide.mpr #[λz=>by have:=V.int.inj z;lia,λz=>by rw[z];rfl]
  rw[e0];exact z
 ·have f:p=0:=of_decide_eq_true hb
  subst f;have l2:ns.length=2:=CY;obtain⟨n0,a0,b0⟩:=at_ 0 (by lia);obtain⟨n1,a1,b1⟩:=at_ 1 (by lia);rw[b0,b1] at z;have w0:aY n0 2 12=true:=by
   have y:=fZ.mp ea (n0,(2,12)) (aP (i:=0) (MH a0 rfl));exact y
  unfold aY at w0;rw[aB,decide_eq_true_iff,decide_eq_true_iff] at w0;refine#[_,Z,rp,_,Z,.inl (aO.of F6),_,Z,np,_,_,_,Z,Z,aO.of hn,kM a0,_,Z,np,_,_,_,Z,Z,aO.of hn,kM a1,_,_,Z,Z,.inl #[by lia,by lia],Z,_,Z,?_];have e1:(!decide (V.int (((vI row).length:Nat):Int)=V.int (n0 * n1))) = !decide ((row.length:Int)=n0 * n1):=by
   rw[jw];congr 1;exact decide_eq_decide.mpr #[λz=>V.int.inj z,λz=>by rw[z]]
  rw[e1];exact z
 have e2:(decide (p=0) && !decide ((row.length:Int)=ns.getD 0 0 * ns.getD 1 0)) = !(p != 0 || decide ((row.length:Int)=ns.getD 0 0 * ns.getD 1 0)):=by
  by_cases z:p=0
  ·simp[z]
  simp[z]
 rw[e2];refine bE (λf=>?_) (λf=>?_)
 ·rw[fM] at f
  rw[f,dr] at q;exact q _ (same_refl _)
 rw[dz,Bool.not_eq_false'] at f;rw[f,cT] at q;refine#[_,Z,rp,_,Z,.inl (aO.of F6),_,_,Z,Z,_,Z,bE (λg=>?_) (λg=>?_)]
 ·have g:=of_decide_eq_true g
  rw[jw] at g
  lia
 refine#[_,Z,rp,Z,#[_,aO.of F6],λD hD=>?_];refine LG (λv=>match v with | .int i=>.bl (JT p i) | _=>.cj) (by rw[jw];lia) F6 hD (λi v Hd Q' hv sd q'=>?_) (λH2 s2 e2=>?_)
 ·unfold vI at hv
  rw[aA] at hv;cases hb:row[i]? with
  | none=>rw[hb] at hv;cases hv
  | some x=>
   rw[hb] at hv;cases hv;obtain⟨xs',rs',c',r',rv',k1,k2,k3,k4,k5,k6,k7⟩:=AZ Hd hp;cases er:l9 p with
   | none=>rw[iU er] at hb;cases hb
   | some y=>
    rw[er] at k7;obtain⟨b,rfl,k8⟩:=k7;refine#[_,Z,_,Z,T.iL,_,_,_,Z,Z,k1,b8 (j:=p) k2,c',_,_,_,Z,Z,k3,b8 (j:=1) rfl,x,y.1,y.2,b,Z,k8,?_];have q2:=q' Hd (same_refl Hd);have e3:JT p x=aY x y.1 y.2:=by unfold JT;rw[er]
    rw[<- e3];exact q2
 refine#[D,row.map (JT p),Z,aO.of ?_,?_]
 ·rw[e2]
  unfold vI;rw[bB,bB];rfl
 rw[Bb];exact q H2 s2
def F7 (H:Hp) (O:Addr->Prop) (e a:Addr) (L:aE) (nx:Nat):Prop:=∃(g bl:Addr) (bs:List Addr),dh H a g bl bs L nx/\Sp.WF L/\ke L/\(∀b∈L.beings,b.number < nx)/\O a/\O g/\O bl/\bl≠e/\g≠e
def F7.mono (h:F7 H O e a L nx) (k :∀b o,(O b/\b≠e/\(∃xs,o=.lst xs)\/∃C dx fs,o=.ins C dx fs/\fs.length≠2)->H b=some o->H' b=some o) (hO :∀b,O b->O' b) (cG :∀b,O b->H b≠none->b≠e->b≠e'):F7 H' O' e' a L nx:=by
 obtain⟨g,bl,bs,hL,w1,w2,w3,o1,o2,o3,n1,n2⟩:=h;refine#[g,bl,bs,#[?_,k _ _ (.inl #[o2,n2,_,Z]) hL.gr,k _ _ (.inl #[o3,n1,_,Z]) hL.bl,?_],w1,w2,w3,hO _ o1,hO _ o2,hO _ o3,cG _ o3 (by rw[hL.bl];exact λz=>nomatch z) n1,cG _ o2 (by rw[hL.gr];exact λz=>nomatch z) n2]
 ·obtain⟨dx,z⟩:=hL.lv
  exact#[dx,k _ _ (.inr #[_,_,_,Z,by simp[gc]]) z]
 exact Paired.imp (λ_ _ #[dx,z]=>#[dx,k _ _ (.inr #[_,_,_,Z,by simp[wA,jS]]) z]) hL.be
structure oF (H:Hp) (O:Addr->Prop) (tb:Addr) (S:sT):Prop where
 at_ :∃(dx e:Addr) (lv:V) (as:List Addr),H tb=some (.ins T.b9.C dx (iK lv (.ref e)))/\H e=some (.lst (as.map V.ref))/\O tb/\O e/\(match S.world with
  | none=>lv=.cj/\as=[]
  | some W=>∃a,lv=.ref a/\F7 H O e a W.level W.next/\Paired (λa L=>F7 H O e a L W.next) as W.past.reverse/\W.past.length<=20)
 dom :∀b,O b->H b≠none
def oF.on (h:oF H O tb S) (k :∀b o,(O b\/∃C dx fs,o=.ins C dx fs)->H b=some o->H' b=some o):oF H' O tb S:=by
 obtain⟨⟨dx,e,lv,as,h1,h2,o1,o2,h3⟩,dm⟩:=h;have k' :∀b o,(O b/\b≠e/\(∃xs,o=.lst xs)\/∃C dx fs,o=.ins C dx fs/\fs.length≠2)->H b=some o->H' b=some o:=λb o z=>k b o (z.imp (λz=>z.1) λ#[C,dx,fs,z,_]=>#[C,dx,fs,z]);refine#[#[dx,e,lv,as,k _ _ (.inl o1) h1,k _ _ (.inl o2) h2,o1,o2,?_],λb hb z=>?_]
 ·cases hW:S.world with
  | none=>rw[hW] at h3;exact h3
  | some W=>
   rw[hW] at h3;obtain⟨a,e1,e2,e3,e4⟩:=h3;exact#[a,e1,e2.mono k' (λ_ z=>z) (λ_ _ _ z=>z),Paired.imp (λ_ _ z=>z.mono k' (λ_ z=>z) (λ_ _ _ z=>z)) e3,e4]
 cases hh:H b with
 | none=>exact dm b hb hh
 | some o=>rw[k b o (.inl hb) hh] at z;cases z
theorem oF.same (h:oF H O tb S) (s:bo H H'):oF H' O tb S:=h.on λb o _ z=>s b o z
def oG (tb rp:Addr) (O:Addr->Prop) (H:Hp) (Q:VK) (S:sT) (l:List Int):Prop:=∀(H':Hp) (q:Addr) (O':Addr->Prop),oF H' O' tb S->(∀b,O' b->O b\/H b=none\/b=rp)->(∀b o,¬ O b->H b=some o->H' b=some o)->H q=none->¬ O' q->H' q=some (.lst (vI l))->Q (.ref q) H'
theorem oG.mk (h:oG tb rp O H Q S l) (t:oF H O tb S):um l H Q:=λH' q s n e=>
 h H' q O (t.same s) (λb z=>.inl z) (λb o _ z=>s b o z) n (λz=>t.dom q z n) e
inductive OK (vs:List V) (H:Hp) (Q:VK) (_:XK):Prop where
 | mk (tb np rp:Addr) (O:Addr->Prop) (S:sT) (x y:Nat) (gr:List Nat) (_:vs=[.ref tb,.ref np,.ref rp]) (_:oF H O tb S) (_:H np=some (.lst (vI [(x:Int),(y:Int)]))) (_:H rp=some (.lst (vi gr))) (_:¬ O rp) (_:Sp.WF ⟨x,y,gr,[]⟩) (_:oG tb rp O H Q ⟨some ⟨⟨x,y,gr,[]⟩,1,[]⟩⟩ [0])
def Xq (pQ:wu aL 1 T.aM (DW)):aK aL 3 T.nv (OK):=by
 refine Y.nv.F.run Kr λbx A outer s H vs Q E hr h=>?_;obtain⟨tb,np,rp,O,S,x,y,gr,rfl,hT,hn,LN,nO,hw,q⟩:=h;refine#[_,(aj (eR (aa 0) (vU Y.aM.ug Y.aM.b Y.aM.m pQ (hr.le rfl) aG (ae (bU (aa 1) bL) (ae (bU (aa 1) bL) (ae (aa 2) ao))))) (aj (eR (aa 0) (cO ao)) (aq (aD (cO (ae bL ao)))))),?_];obtain⟨⟨i0,e,lv,as,t1,t2,o1,o2,t3⟩,dm⟩:=id hT;refine#[_,Z,np,_,_,_,Z,Z,aO.of hn,kM (i:=0) rfl,_,Z,np,_,_,_,Z,Z,aO.of hn,kM (i:=1) rfl,_,Z,λlx dx Qv iV cG=>?_];have sS:=jv Qv iV cG (.own lx) (.ins T.aM.C dx []);refine#[lx,dx,_,_,_,Z,ah,λH1 bl JP g1 g2 g3=>#[Z,?_]];have Xr:H bl=none:=sS.free JP;have s1:bo H H1:=λb o hb=>by
  rw[g3 b (aI hb Qv) (aI hb Xr)];exact sS b o hb
 have lb:lx≠bl:=λz=>by rw[<- z,ah] at JP;cases JP
 have tl:tb≠lx:=aI t1 Qv;have ER:tb≠bl:=aI t1 Xr;refine#[_,Z,tb,_,i0,_,Z,s1 _ _ t1,Y.b9.cl,Y.dM,by show 2 < 1000;decide,?_];rw[wo];refine#[bK _,λe' oR=>?_];have e1:e'≠tb:=λz=>by rw[z,ah] at oR;cases oR
 rw[au e1] at oR;have e2:e'≠lx:=λz=>by rw[z,g1] at oR;cases oR
 have e3:e'≠bl:=λz=>by rw[z,g2] at oR;cases oR
 have e4:H e'=none:=s1.free oR;have e5:e'≠rp:=λz=>by rw[z,LN] at e4;cases e4
 refine#[_,Z,tb,_,i0,_,Z,by rw[au (Ne.symm e1)];exact ah,Y.b9.cl,Y.gE,by show 2 < 1000;decide,?_];rw[tT];refine#[fB 1,λq1 de=>?_];have q2:q1≠tb:=λz=>by rw[z,ah] at de;cases de
 rw[au q2] at de;have q3:q1≠e':=λz=>by rw[z,ah] at de;cases de
 rw[au q3,au q2] at de;have q4:H q1=none:=s1.free de;have q5:q1≠lx:=λz=>by rw[z,g1] at de;cases de
 have q6:q1≠bl:=λz=>by rw[z,g2] at de;cases de
 have q7:q1≠rp:=λz=>by rw[z,LN] at q4;cases q4
 have rt:rp≠tb:=λz=>by rw[z,t1] at LN;cases LN
 have up :∀b o,b≠tb->H1 b=some o->aX (aX (aX (aX H1 tb (.ins T.b9.C i0 (iK (.ref lx) (.ref e)))) e' (.lst [])) tb (.ins T.b9.C i0 (iK (.ref lx) (.ref e')))) q1 (.lst [.int 0]) b=some o:=λb o hb hh=>by
  rw[au (aI hh de),au hb,au (aI hh oR),au hb];exact hh
 refine q _ q1 (λb=>O b\/b=lx\/b=bl\/b=rp\/b=e') #[#[i0,e',.ref lx,[],?_,?_,.inl o1,.inr (.inr (.inr (.inr rfl))),lx,Z,#[rp,bl,[],#[#[dx,up _ _ (Ne.symm tl) g1],up _ _ rt (s1 _ _ LN),up _ _ (Ne.symm ER) g2,.nil],hw,List.nodup_nil,(λb hb=>by cases hb),.inr (.inl rfl),.inr (.inr (.inr (.inl rfl))),.inr (.inr (.inl rfl)),Ne.symm e3,Ne.symm e5],.nil,bK _],?_] ?_ ?_ q4 ?_ ah
 ·rw[au (Ne.symm q2),ah]
 ·rw[au (Ne.symm q3),au e1,ah];rfl
 ·intro b hb z
  rcases hb with hb | rfl | rfl | rfl | rfl
  ·cases hh:H b with
   | none=>exact dm b hb hh
   | some o=>
    by_cases bt:b=tb
    ·rw[bt,au (Ne.symm q2),ah] at z;cases z
    rw[up b o bt (s1 _ _ hh)] at z;cases z
  ·rw[up _ _ (Ne.symm tl) g1] at z;cases z
  ·rw[up _ _ (Ne.symm ER) g2] at z;cases z
  ·rw[up _ _ rt (s1 _ _ LN)] at z;cases z
  rw[au (Ne.symm q3),au e1,ah] at z;cases z
 ·intro b hb
  rcases hb with hb | rfl | rfl | rfl | rfl
  ·exact .inl hb
  ·exact .inr (.inl Qv)
  ·exact .inr (.inl Xr)
  ·exact .inr (.inr rfl)
  exact .inr (.inl e4)
 ·exact λb o nb hb=>up b o (λz=>nb (z ▸ o1)) (s1 _ _ hb)
 rintro(hb | hb | hb | hb | hb)
 ·exact dm q1 hb q4
 ·exact q5 hb
 ·exact q6 hb
 ·exact q7 hb
 exact q3 hb
inductive Rq (vs:List V) (H:Hp) (Q:VK) (_:XK):Prop where
 | mk (tb rp:Addr) (O:Addr->Prop) (W:mR) (_:vs=[.ref tb]) (_:oF H O tb ⟨some W⟩) (_:oG tb rp O H Q ⟨some (bf W .undo).1⟩ (bf W .undo).2)
def aaC:aK aL 1 T.rm (Rq):=by
 refine Y.rm.F.run Ny λbx A outer s H vs Q E hr h=>?_;obtain⟨tb,rp,O,⟨L,nx,past⟩,rfl,hT,q⟩:=h;refine#[_,(aj (bG (uz (Ji (aW (aa 0)))) (aq (aD (cO (ae (df Y.GJ) ao)))) bp) (aj (eR (aa 0) (Yt (aW (aa 0)))) (aq (aD (cO (ae bL ao)))))),?_];obtain⟨⟨i0,e,lv,as,t1,t2,o1,o2,t3⟩,dm⟩:=id hT;obtain⟨a,rfl,lv1,ps,L3⟩:=t3;refine#[_,Z,tb,_,i0,_,_,Z,t1,Y.b9.cl,Y.gE,Z,_,.inl #[_,aO.of t2,Z],?_];cases past with
 | nil=>
  have mh:as=[]:=by cases ps;rfl
  subst mh;exact cF #[fB 1,λq1 de=>(q.mk hT).lit (same_refl H) de]
 | cons K0 r=>
  have ahB:(K0::r).length<=20:=L3;have ps':Paired (λa L=>F7 H O e a L nx) as (r.reverse++[K0]):=by
   have z:=ps;rw[show(mR.mk L nx (K0::r)).past.reverse=r.reverse++[K0] from List.reverse_cons] at z;exact z
  obtain⟨bs,z,rfl,pb,hz⟩ :∃bs z,as=bs++[z]/\Paired (λa L=>F7 H O e a L nx) bs r.reverse/\F7 H O e z K0 nx:=by
   have hl:=ps'.length;rw[ay] at hl;have p1:=Paired.take r.reverse.length ps';have p2:=Paired.drop r.reverse.length ps';rw[C1] at p1;rw[C0] at p2;generalize hd:as.drop r.reverse.length=ds at p2;cases p2 with
   | @cons z _ _ _ h1 h2=>
    cases h2;exact#[as.take r.reverse.length,z,by rw[<- hd,ip],p1,h1]
  have cG:(!!((bs++[z]).map V.ref).isEmpty)=false:=by simp
  refine pM cG ?_;refine#[_,Z,tb,_,i0,_,_,Z,t1,Y.b9.cl,Y.gE,Z,.inl #[Z,_,aO.of t2],e,_,V.ref z,Z,Z,t2,by simp,?_];have et:tb≠e:=cN t1 t2 (by intro y;cases y);refine#[_,Z,tb,_,i0,_,Z,by rw[au et];exact t1,Y.b9.cl,Y.dM,by show 2 < 1000;decide,?_];rw[wo,show((bs++[z]).map V.ref).dropLast=bs.map V.ref from by simp];refine#[fB 1,λq1 de=>?_];have q2:q1≠tb:=λy=>by rw[y,ah] at de;cases de
  rw[au q2] at de;have q3:q1≠e:=λy=>by rw[y,ah] at de;cases de
  rw[au q3] at de;have up :∀b o,b≠tb->b≠e->H b=some o->aX (aX (aX H e (.lst (bs.map V.ref))) tb (.ins T.b9.C i0 (iK (.ref z) (.ref e)))) q1 (.lst [.int 0]) b=some o:=λb o h1 h2 hh=>by
   rw[au (aI hh de),au h1,au h2];exact hh
  have k' :∀b o,(O b/\b≠e/\(∃xs,o=.lst xs)\/∃C dx fs,o=.ins C dx fs/\fs.length≠2)->H b=some o->aX (aX (aX H e (.lst (bs.map V.ref))) tb (.ins T.b9.C i0 (iK (.ref z) (.ref e)))) q1 (.lst [.int 0]) b=some o:=λb o hh hb=>by
   rcases hh with⟨_,h2,xs,rfl⟩ | ⟨C,dx,fs,rfl,h2⟩
   ·exact up b _ (cN hb t1 (by intro y;cases y)) h2 hb
   exact up b _ (cN hb t1 (λy=>h2 (by rw[(HO.ins.inj y).2.2];rfl))) (cN hb t2 (by intro y;cases y)) hb
  refine q _ q1 O #[#[i0,e,.ref z,bs,?_,?_,o1,o2,z,Z,hz.mono k' (λ_ y=>y) (λ_ _ _ y=>y),Paired.imp (λ_ _ y=>y.mono k' (λ_ y=>y) (λ_ _ _ y=>y)) pb,?_],?_] (λb y=>.inl y) ?_ de (λy=>dm q1 y de) ah
  ·rw[au (Ne.symm q2),ah]
  ·rw[au (Ne.symm q3),au (Ne.symm et),ah]
  ·show r.length<=20
   rw[aV] at ahB
   lia
  ·intro b hb y
   by_cases h1:b=tb
   ·rw[h1,au (Ne.symm q2),ah] at y;cases y
   by_cases h2:b=e
   ·rw[h2,au (Ne.symm q3),au (Ne.symm et),ah] at y;cases y
   cases hh:H b with
   | none=>exact dm b hb hh
   | some o=>rw[up b o h1 h2 hh] at y;cases y
  exact λb o nb hb=>up b o (λy=>nb (y ▸ o1)) (λy=>nb (y ▸ o2)) hb
inductive Iq (vs:List V) (H:Hp) (Q:VK) (_:XK):Prop where
 | mk (b:Addr) (s:aU) (_:vs=[.ref b]) (_:Ck H b s) (_:um ((jC s).drop 1) H Q)
def Xs:aK aL 1 T.iZ (Iq):=by
 refine Y.iZ.F.run HY λbx A outer s H vs Q E hr h=>?_;obtain⟨b,st,rfl,⟨dx,hB⟩,q⟩:=h;refine#[_,(aq (aD (cO (ae (aW (aa 0)) (ae (aW (aa 0)) (ae (aW (aa 0)) (ae (aW (aa 0)) (ae (aW (aa 0)) (ae (aW (aa 0)) ao))))))))),?_];refine#[_,Z,b,_,dx,_,_,Z,hB,Y.aR.cl,Y.fq,Z,_,Z,b,_,dx,_,_,Z,hB,Y.aR.cl,Y.fS,Z,_,Z,b,_,dx,_,_,Z,hB,Y.aR.cl,Y.gP,Z,_,Z,b,_,dx,_,_,Z,hB,Y.aR.cl,Y.pK,Z,_,Z,b,_,dx,_,_,Z,hB,Y.aR.cl,Y.mL,Z,_,Z,b,_,dx,_,_,Z,hB,Y.aR.cl,Y.mM,Z,fB 6,λq1 de=>?_];exact q.lit (same_refl H) de
inductive L4 (vs:List V) (H:Hp) (Q:VK) (_:XK):Prop where
 | mk (a g bl:Addr) (bs:List Addr) (L:aE) (nx n:Nat) (_:vs=[.ref a,.int (n:Nat)]) (_:dh H a g bl bs L nx) (_:um (match bM L n with | none=>[-3] | some b=>0::(jC b).drop 1) H Q)
def Vq (c9:aK aL 1 T.ck (uk)) (lE:aK aL 1 T.iZ (Iq)) :
  aK aL 2 T.pI (L4):=by
 refine Y.pI.F.run Eo λbx A outer s H vs Q E hr h=>?_;obtain⟨a,g,bl,bs,L,nx,n,rfl,hL,q⟩:=h;refine#[_,(aj (aZ 2 Eo.nd (eQ Y.ck Y.aM.cl c9 (hr.le rfl) aG (aa 0) (ae (aa 1) ao))) (aj (bG (sX (aa 2)) (aq (aD (cO (ae (df Y.xZ) ao)))) bp) (aq (aD (l8 (cO (ae bL ao)) (aJ Y.iZ lE (hr.le rfl) aG (ae (aa 2) ao))))))),?_];obtain⟨ez,ha⟩:=hL.lv;refine#[_,Z,a,ez,_,Z,ha,j7,_,Z,a,g,bl,bs,L,nx,n,Z,hL,λi b be hb hs hf=>?_,λhf=>?_]
 ·rw[show bM L n=some be from hf] at q
  refine#[_,Z,_,Z,cH #[fB 1,λq0 AY=>?_]];obtain⟨be',e,fO,hB⟩:=Paired.get hL.be hb;rw[hs] at e;cases e;have s0:=aT AY (.lst [.int 0]);refine#[_,Z,b,be,Z,#[fO,s0 _ _ hB],λH1 q1 s1 n1 e1=>?_];refine#[q0,q1,_,_,Z,Z,s1 _ _ ah,e1,by show 1+6<=sizeLine;decide,λq5 LW=>?_];exact q.lit (s0.trans s1) LW
 rw[show bM L n=none from hf] at q;exact#[_,Z,_,Z,cF #[fB 1,λq1 de=>q.lit (same_refl H) de]]
inductive L5 (vs:List V) (H:Hp) (Q:VK) (_:XK):Prop where
 | mk (tb:Addr) (O:Addr->Prop) (W:mR) (_:vs=[.ref tb]) (_:oF H O tb ⟨some W⟩) (_:um (bf W .level).2 H Q)
def Vr (lE:aK aL 1 T.iZ (Iq)) (gL:aK aL 1 T.iy (AV)) :
  aK aL 2 T.pJ (L5):=by
 refine Y.pJ.F.run uB λbx A outer s H vs Q E hr h=>?_;obtain⟨tb,O,⟨L,nx,past⟩,rfl,hT,q⟩:=h;refine#[_,(aj (aZ 1 uB.nd (aW (aa 0))) (aj (aZ 2 uB.nd (cO ao)) (aj (kJ PassesOwn.never rfl (fo (aW (aa 1))) (gu 3 uB.nd) (aq (dC (DE (aa 2) (l8 (cO (ae (aW (aa 3)) ao)) (aJ Y.iZ lE (hr.le rfl) aG (ae (aa 3) ao))))))) (aq (aD (l8 (cO (ae bL (ae (aW (aa 1)) (ae (aW (aa 1)) (ae (aW (aa 1)) (ae (ir Y.iu (aW (aa 0))) ao)))))) (aJ Y.iy gL (hr.le rfl) aG (ae (aa 2) ao)))))))),?_];obtain⟨⟨i0,e,lv,as,t1,t2,o1,o2,t3⟩,dm⟩:=id hT;obtain⟨a,rfl,⟨g,bl,bs,hL,hw,_⟩,ps,L3⟩:=t3;have q:um (0::(L.w:Int)::(L.h:Int)::(nx:Int)::(past.length:Int)::bT (L.beings.flatMap jC)) H Q:=q;have hL:dh H a g bl bs L nx:=hL;have hw:Sp.WF L:=hw;have h8:=hw.n8;have eP:bs.length=L.beings.length:=hL.be.length;have mh:as.length=past.length:=by have z:=ps.length;rw[List.length_reverse] at z;exact z
 have tl :∀l:List aU,(l.flatMap jC).length=7 * l.length:=λl=>by
  induction l with
  | nil=>rfl
  | cons b r ih=>rw[ze,ay,ih,aV];show 7+_=_;lia
 refine#[_,Z,tb,_,i0,_,_,Z,t1,Y.b9.cl,Y.dM,Z,bK _,λD hD=>?_];have sD:=aT hD (.lst []);obtain⟨ez,ha⟩:=hL.lv;refine#[_,Z,a,_,ez,_,_,Z,sD _ _ ha,Y.aM.cl,Y.dE,Z,bl,Z,#[_,aO.of (sD _ _ hL.bl)],?_];refine jD (xs:=bs.map V.ref) (λi σ Hc=>(∃z,σ = [some (.ref tb),some (.ref a),some (.ref D),z])/\bo H Hc/\Hc D=some (.lst (vI ((L.beings.take i).flatMap jC)))) #[#[none,Z],sD,ah] (λi σ Hc _ e=>aO.of (e.2.1 _ _ hL.bl)) (λi x σ Hc hx e=>?_) (λσ Hc e=>?_)
 ·obtain⟨⟨z,rfl⟩,sc,eD⟩:=e
  obtain⟨b,st,fO,rfl,hb,hs,hB⟩:=wB (hL.be.same sc) hx;have hi:i < bs.length:=(az.mp hb).1;refine#[_,Z,.inl #[Z,_,aO.of eD],_,Z,b,_,fO,_,_,Z,hB,Y.aR.cl,Y.gW,Z,fB 1,λq0 AY=>?_];have s0:=aT AY (.lst [V.int ((st.number:Nat):Int)]);refine#[_,Z,b,st,Z,#[fO,s0 _ _ hB],λH1 q1 s1 n1 e1=>?_];refine#[q0,q1,_,_,Z,Z,s1 _ _ ah,e1,by show 1+6<=sizeLine;decide,λq5 LW=>?_];have s5:=aT LW (.lst ([V.int ((st.number:Nat):Int)]++vI ((jC st).drop 1)));have sa:=s0.trans (s1.trans s5);refine#[D,q5,_,_,Z,Z,sa _ _ eD,ah,?_,#[_,Z],λb' o' fW=>?_,?_]
  ·rw[jw,tl,bJ];show _+(1+6)<=2 ^ 24;lia
  ·rw[au (aI fW hD)];exact sa _ _ (sc _ _ fW)
  rw[ah,bW,hs,kg,AU];show _=some (HO.lst (_++vI (jC st++[])));rw[b5];rfl
 obtain⟨⟨z,rfl⟩,sc,eD⟩:=e;rw[ai,eP,cq] at eD;have ha':=sc _ _ ha;have t1':=sc _ _ t1;have t2':=sc _ _ t2;refine#[_,Z,a,_,ez,_,_,Z,ha',Y.aM.cl,Y.dW,Z,_,Z,a,_,ez,_,_,Z,ha',Y.aM.cl,Y.iM,Z,_,Z,a,_,ez,_,_,Z,ha',Y.aM.cl,Y.gf,Z,_,Z,tb,_,i0,_,_,Z,t1',Y.b9.cl,Y.gE,Z,e,_,Z,.inl (aO.of t2'),fB 5,λq0 AY=>?_];rw[ai,mh];have s0:=aT AY (.lst [V.int 0,V.int ((L.w:Nat):Int),V.int ((L.h:Nat):Int),V.int ((nx:Nat):Int),V.int ((past.length:Nat):Int)]);refine#[_,Z,D,_,Z,s0 _ _ eD,by rw[tl];lia,λH4 rw4 s4 n4 e4=>?_];refine#[q0,rw4,_,_,Z,Z,s4 _ _ ah,e4,?_,λq5 LW=>?_]
 ·rw[yy,tl];show 5+(_+1)<=2 ^ 24;lia
 exact q.lit (sc.trans (s0.trans s4)) LW
def JU {α : Type} {l:List α} {a:α} (h:l.Nodup) (n:a∉l):(l++[a]).Nodup:=by
 rw[List.nodup_append];refine#[h,by simp,λx hx y hy=>?_];rw[fu.mp hy];exact λz=>n (z ▸ hx)
def ad6 {L:aE} {nx:Nat} {c:bc} {l m z:Int} {s:Nat} (h:Sp.WF L) (hd:ke L) (hn :∀b∈L.beings,b.number < nx) (hi:bV L c=true) (hf:fw L c=true) (h8:L.beings.length≠8) :
  Sp.WF #[L.w,L.h,L.ground,L.beings++[#[nx,c,l,m,z,s]]]/\ke #[L.w,L.h,L.ground,L.beings++[#[nx,c,l,m,z,s]]]/\∀b∈L.beings++[(#[nx,c,l,m,z,s]:aU)],b.number < nx+1:=by
 have iU:gy L c=none:=by
  unfold fw at hf;rw[aB,aB] at hf;exact Option.isNone_iff_eq_none.mp hf.2.2
 refine#[#[h.w0,h.w1,h.h0,h.h1,h.gl,λb hb=>?_,?_,?_],?_,λb hb=>?_]
 ·rcases eY.mp hb with hb | hb
  ·exact h.ins b hb
  rw[fu.mp hb];exact hi
 ·show((L.beings++[_]).map _).Nodup
  rw[br];refine JU h.nd λhm=>?_;obtain⟨b,hb,e⟩:=bX.mp hm;have:=hn b hb;have e':b.number=nx:=e
  lia
 ·show(L.beings++[_]).length<=8
  rw[ay];have:=h.n8;show _+1<=8
  lia
 ·show((L.beings++[_]).map _).Nodup
  rw[br];refine JU hd λhm=>?_;obtain⟨b,hb,e⟩:=bX.mp hm;have z:=yz.mp iU b hb;have e':b.at_=c:=e;simp[e'] at z
 rcases eY.mp hb with hb | hb
 ·have:=hn b hb;lia
 rw[fu.mp hb];exact jo _
inductive Rr (vs:List V) (H:Hp) (Q:VK) (_:XK):Prop where
 | mk (tb np rp:Addr) (O:Addr->Prop) (W:mR) (x y l m z:Int) (s:Nat) (_:vs=[.ref tb,.ref np]) (_:oF H O tb ⟨some W⟩) (_:H np=some (.lst (vI [x,y,l,m,z,(s:Int)]))) (_:oG tb rp O H Q ⟨some (bf W (.being (x,y) l m z s)).1⟩ (bf W (.being (x,y) l m z s)).2)
def aaD (jl:aK aL 1 T.fQ (DS)) (ia:aK aL 3 T.eU (Gy))
  (pP:wu aL 1 T.aR (yO)) :
  aK aL 4 T.rk (Rr):=by
 refine Y.rk.F.run r9 λbx A outer s H vs Q E hr h=>?_;obtain⟨tb,np,rp,O,⟨L,nx,past⟩,x,y,l,m,z,sd,rfl,hT,hn,q⟩:=h;refine#[_,(aj (aZ 2 r9.nd (aW (aa 0))) (aj (aZ 3 r9.nd (bU (aa 1) bL)) (aj (aZ 4 r9.nd (bU (aa 1) bL)) (aj (bG (uz (gD (eQ Y.fQ Y.aM.cl jl (hr.le rfl) aG (aa 2) (ae (aa 3) (ae (aa 4) ao))))) (aq (aD (cO (ae (df Y.xZ) ao)))) bp) (aj (bG (uz (gD (eQ Y.eU Y.aM.cl ia (hr.le rfl) aG (aa 2) (ae (aa 3) (ae (aa 4) ao))))) (aq (aD (cO (ae (df Y.Se) ao)))) bp) (aj (bG (dg (ir Y.iu (aW (aa 2))) (df Y.Ep)) (aq (aD (cO (ae (df Y.GH) ao)))) bp) (aj (aZ 5 r9.nd (aW (aa 2))) (aj (dC (qt (aW (aa 2)) (vU Y.aR.ug Y.aR.b Y.aR.m pP (hr.le rfl) aG (ae (aa 5) (ae (aa 3) (ae (aa 4) (ae (bU (aa 1) bL) (ae (bU (aa 1) bL) (ae (bU (aa 1) bL) (ae (bU (aa 1) bL) ao)))))))))) (aj (eR (aa 2) (iX (aa 5) bL)) (aj (eR (aa 0) (cO ao)) (aq (aD (cO (ae bL (ae (aa 5) ao))))))))))))))),?_];obtain⟨⟨i0,e,lv,as,t1,t2,o1,o2,t3⟩,dm⟩:=id hT;obtain⟨a,rfl,⟨g,bl,bs,hL,hw,hd,wD,oa,og,ob,ne1,ne2⟩,ps,L3⟩:=t3;have hL:dh H a g bl bs L nx:=hL;have hw:Sp.WF L:=hw;have hd:ke L:=hd;have wD :∀b∈L.beings,b.number < nx:=wD;obtain⟨ez,ha⟩:=hL.lv;have eP:bs.length=L.beings.length:=hL.be.length;have h8:=hw.n8;refine#[_,Z,tb,_,i0,_,_,Z,t1,Y.b9.cl,Y.dM,Z,?_];refine#[_,Z,np,_,_,_,Z,Z,aO.of hn,kM (i:=0) rfl,?_];refine#[_,Z,np,_,_,_,Z,Z,aO.of hn,kM (i:=1) rfl,?_];refine#[_,Z,a,ez,_,Z,ha,xA,_,Z,_,Z,a,g,bl,bs,L,nx,x,y,Z,hL,_,Z,?_];cases hi:bV L (x,y) with
 | false=>
  have e0:bf ⟨L,nx,past⟩ (.being (x,y) l m z sd)=(⟨L,nx,past⟩,[-3]):=by simp[bf,hi]
  rw[e0] at q;exact cF #[fB 1,λq1 de=>(q.mk hT).lit (same_refl H) de]
 | true=>
  refine cH #[_,Z,a,ez,_,Z,ha,uO,_,Z,_,Z,a,g,bl,bs,L,nx,x,y,Z,hL,hw,_,Z,?_];cases hf:fw L (x,y) with
  | false=>
   have e0:bf ⟨L,nx,past⟩ (.being (x,y) l m z sd)=(⟨L,nx,past⟩,[-4]):=by simp[bf,hi,hf]
   rw[e0] at q;exact cF #[fB 1,λq1 de=>(q.mk hT).lit (same_refl H) de]
  | true=>
   refine cH #[_,Z,a,_,ez,_,_,Z,ha,Y.aM.cl,Y.dE,Z,bl,_,Z,.inl (aO.of hL.bl),Z,_,Z,?_];have ec:decide (V.int (((bs.map V.ref).length:Nat):Int)=V.int 8)=decide (L.beings.length=8):=by
    rw[ai,eP];exact decide_eq_decide.mpr #[λz=>by have:=V.int.inj z;lia,λz=>by rw[z];rfl]
   rw[ec];refine bE (λc=>?_) (λc=>?_)
   ·have c:=of_decide_eq_true c
    have e0:bf ⟨L,nx,past⟩ (.being (x,y) l m z sd)=(⟨L,nx,past⟩,[-5]):=by simp[bf,hi,hf,c,EC]
    rw[e0] at q;exact#[fB 1,λq1 de=>(q.mk hT).lit (same_refl H) de]
   have c:L.beings.length≠8:=λz=>c (decide_eq_true z);have e0:bf ⟨L,nx,past⟩ (.being (x,y) l m z sd)=(⟨⟨L.w,L.h,L.ground,L.beings++[⟨nx,(x,y),l,m,z,sd⟩]⟩,nx+1,[]⟩,[0,(nx:Int)]):=by
    have h9:¬ (8<=L.beings.length):=by lia
    simp[bf,hi,hf,h9,EC]
   rw[e0] at q;obtain⟨w1,w2,w3⟩:=ad6 (l:=l) (m:=m) (z:=z) (s:=sd) hw hd wD hi hf c;refine#[_,Z,a,_,ez,_,_,Z,ha,Y.aM.cl,Y.gf,Z,?_];refine#[_,Z,a,_,ez,_,_,Z,ha,Y.aM.cl,Y.dE,Z,.inl #[Z,_,aO.of hL.bl],_,Z,_,Z,_,Z,_,Z,np,_,_,_,Z,Z,aO.of hn,kM (i:=2) rfl,_,Z,np,_,_,_,Z,Z,aO.of hn,kM (i:=3) rfl,_,Z,np,_,_,_,Z,Z,aO.of hn,kM (i:=4) rfl,_,Z,np,_,_,_,Z,Z,aO.of hn,kM (i:=5) rfl,λxb fO hxb ahC ahD=>?_];refine#[xb,fO,_,_,_,_,_,_,_,Z,ah,Z,?_];rw[ij];have sS:=jv hxb ahC ahD (.own xb) (.ins T.aR.C fO (jS (.int (nx:Nat)) (.int x) (.int y) (.int l) (.int m) (.int z) (.int (sd:Nat))));generalize hH1:aX (aX H fO (.own xb)) xb (.ins T.aR.C fO (jS (.int (nx:Nat)) (.int x) (.int y) (.int l) (.int m) (.int z) (.int (sd:Nat))))=H1 at sS;have hB1:H1 xb=some (.ins T.aR.C fO (jS (.int (nx:Nat)) (.int x) (.int y) (.int l) (.int m) (.int z) (.int (sd:Nat)))):=by rw[<- hH1,ah]
   refine#[bl,_,Z,sS _ _ hL.bl,by rw[ai];show _ < 2 ^ 24;lia,?_];have ab:a≠bl:=cN ha hL.bl (by intro z;cases z);have tbb:tb≠bl:=cN t1 hL.bl (by intro z;cases z);have tba:tb≠a:=cN t1 ha (λz=>absurd (congrArg dA (HO.ins.inj z).2.2) (by simp[iK,gc]));refine#[_,Z,_,_,Z,Z,_,Z,a,_,ez,_,Z,by rw[au ab];exact sS _ _ ha,Y.aM.cl,Y.gf,by show 5 < 1000;decide,?_];rw[vd];refine#[bK _,λe' oR=>?_];have e1:e'≠a:=λz=>by rw[z,ah] at oR;cases oR
   rw[au e1] at oR;have e2:e'≠bl:=λz=>by rw[z,ah] at oR;cases oR
   rw[au e2] at oR;have e4:H e'=none:=sS.free oR;have e3:e'≠tb:=λz=>by rw[z,t1] at e4;cases e4
   refine#[_,Z,tb,_,i0,_,Z,by rw[au (Ne.symm e3),au tba,au tbb];exact sS _ _ t1,Y.b9.cl,Y.gE,by show 2 < 1000;decide,?_];rw[tT];refine#[_,Z,fB 2,λq1 de=>?_];have q2:q1≠tb:=λz=>by rw[z,ah] at de;cases de
   rw[au q2] at de;have q3:q1≠e':=λz=>by rw[z,ah] at de;cases de
   rw[au q3] at de;have q4:q1≠a:=λz=>by rw[z,ah] at de;cases de
   rw[au q4] at de;have q5:q1≠bl:=λz=>by rw[z,ah] at de;cases de
   rw[au q5] at de;have q6:H q1=none:=sS.free de;have up :∀b o,b≠tb->b≠a->b≠bl->H1 b=some o->aX (aX (aX (aX (aX H1 bl (.lst (bs.map V.ref++[V.ref xb]))) a (.ins T.aM.C ez (gc (.int (L.w:Nat)) (.int (L.h:Nat)) (.ref g) (.ref bl) (.int ((nx:Nat)+1))))) e' (.lst [])) tb (.ins T.b9.C i0 (iK (.ref a) (.ref e')))) q1 (.lst [.int 0,.int (nx:Nat)]) b=some o:=λb o h1 h2 h3 hh=>by
    rw[au (aI hh de),au h1,au (aI hh oR),au h2,au h3];exact hh
   have gb:g≠bl:=by
    intro zz;have hg:=hL.gr;rw[zz,hL.bl] at hg;have q:=HO.lst.inj (bN.inj hg);have LI:=WF.LI hw;cases hc:L.ground with
    | nil=>exact LI hc
    | cons u r=>
     rw[hc] at q;cases bs with
     | nil=>cases q
     | cons v t=>cases q
   refine q _ q1 (λb=>O b\/b=e') #[#[i0,e',.ref a,[],?_,?_,.inl o1,.inr rfl,a,Z,#[g,bl,bs++[xb],#[#[ez,?_],?_,?_,?_],w1,w2,w3,.inl oa,.inl og,.inl ob,Ne.symm e2,λzz=>?_],.nil,bK _],?_] ?_ ?_ q6 ?_ ah
   ·rw[au (Ne.symm q2),ah]
   ·rw[au (Ne.symm q3),au e3,ah];rfl
   ·rw[au (Ne.symm q4),au (Ne.symm tba),au (Ne.symm e1),ah]
    rfl
   ·exact up g _ (cN hL.gr t1 (by intro z;cases z)) (cN hL.gr ha (by intro z;cases z)) gb (sS _ _ hL.gr)
   ·rw[au (Ne.symm q5),au (Ne.symm tbb),au (Ne.symm e2),au (Ne.symm ab),ah,br]
    rfl
   ·have YX :∀(b:Addr) (st:aU),Ck H1 b st->Ck (aX (aX (aX (aX (aX H1 bl (.lst (bs.map V.ref++[V.ref xb]))) a (.ins T.aM.C ez (gc (.int (L.w:Nat)) (.int (L.h:Nat)) (.ref g) (.ref bl) (.int ((nx:Nat)+1))))) e' (.lst [])) tb (.ins T.b9.C i0 (iK (.ref a) (.ref e')))) q1 (.lst [.int 0,.int (nx:Nat)])) b st:=λb st #[dx,hb]=>
     #[dx,up b _ (cN hb (sS _ _ t1) (λz=>absurd (congrArg dA (HO.ins.inj z).2.2) (by simp[iK,wA,jS]))) (cN hb (sS _ _ ha) (λz=>absurd (congrArg dA (HO.ins.inj z).2.2) (by simp[gc,wA,jS]))) (cN hb (sS _ _ hL.bl) (by intro z;cases z)) hb]
    exact Paired.app (Paired.imp (λb st z=>YX b st z) (hL.be.same sS)) (.cons (YX xb _ #[fO,hB1]) .nil)
   ·rw[zz] at hL
    rw[hL.gr] at e4;cases e4
   ·intro b hb zz
    rcases hb with hb | rfl
    ·by_cases h1:b=tb
     ·rw[h1,au (Ne.symm q2),ah] at zz;cases zz
     by_cases h2:b=a
     ·rw[h2,au (Ne.symm q4),au (Ne.symm tba),au (Ne.symm e1),ah] at zz;cases zz
     by_cases h3:b=bl
     ·rw[h3,au (Ne.symm q5),au (Ne.symm tbb),au (Ne.symm e2),au (Ne.symm ab),ah] at zz;cases zz
     cases hh:H b with
     | none=>exact dm b hb hh
     | some o=>rw[up b o h1 h2 h3 (sS _ _ hh)] at zz;cases zz
    rw[au (Ne.symm q3),au e3,ah] at zz;cases zz
   ·intro b hb
    rcases hb with hb | rfl
    ·exact .inl hb
    exact .inr (.inl e4)
   ·exact λb o nb hb=>up b o (λzz=>nb (zz ▸ o1)) (λzz=>nb (zz ▸ oa)) (λzz=>nb (zz ▸ ob)) (sS _ _ hb)
   rintro(hb | hb)
   ·exact dm q1 hb q6
   exact q3 hb
def JV (L:aE) (k:iG):(gT L k).target=k.target:=by
 unfold gT;split <;> rfl
theorem L6 (k:iG) :∀(sp:cz) {L:aE},Sp.WF L->ke L->bV L k.target=true->ke (gA k L sp)
 | [],_,_,hd,_=>hd
 | s::r,L,hw,hd,hi=>by
  have n:=GL hw k s;exact L6 k r (n.wf hw) (JN hw hd k s (by rw[JV];exact hi)) (by rw[qV n.w n.h];exact hi)
def Xu (hw:Sp.WF L) (hd:ke L) (k:iG) (sp:cz) (hi:bV L k.target=true):ke (iH L k sp):=by
 have n:=uH L k.who (cW L.w L.h sp:Int);have d0:ke (xU L k.who (cW L.w L.h sp:Int)):=GB hd _ λb=>by split <;> rfl
 have d1:=L6 k sp (n.wf hw) d0 (by rw[qV n.w n.h];exact hi);show((sL _ (HD _ _)).map _).Nodup;rw[bB];exact List.Nodup.sublist (List.Sublist.map _ xj) d1
def Xv (hw:Sp.WF L) (hn :∀b∈L.beings,b.number < nx) (k:iG) (sp:cz) :∀b∈(iH L k sp).beings,b.number < nx:=by
 intro b hb;obtain⟨a,ha⟩:=EN hw k sp b hb;have h1:=rO ha;have h2:=List.find?_some ha;simp at h2;have:=hn a h1
 lia
def Xw {α : Type} (l:List α) (a:α):((a::l).take 20).reverse=(l.reverse++[a]).drop ((l.reverse++[a]).length - 20):=by
 rw[List.reverse_take,List.reverse_cons];simp
def aaE:pd xs (some (-20)) none=xs.drop (xs.length - 20):=by
 unfold pd;have e:HT.vO xs.length 0 (some (-20))=xs.length - 20:=by
  show(if(-20:Int) < 0 then((-20:Int)+(xs.length:Int)).toNat else min (-20:Int).toNat xs.length)=_;rw[if_pos (by decide)]
  lia
 rw[e,HT.Ds];exact oJ (by rw[dk];lia)
def SI (hw:Sp.WF L) (k:iG) (sp:cz):(iH L k sp).ground.length=L.ground.length:=by
 have n:=uH L k.who (cW L.w L.h sp:Int);have z:=sW k sp (n.wf hw);exact z.gl.trans n.gl
def GD (kept:Bool) (k:iG) (b:List Nat):ur:=if kept=true then .cast k b else .try_ k b
def Ir (h:gU W.level k b=.error z):bf W (GD kept k b)=(W,[z]):=by
 cases kept <;> simp[GD,bf,h]
inductive OL (vs:List V) (H:Hp) (Q:VK) (_:XK):Prop where
 | mk (tb np rp tp:Addr) (O:Addr->Prop) (W:mR) (n:Nat) (x y:Int) (b:List Nat) (kept:Bool) (_:vs=[.ref tb,.ref np,.ref tp,.bl kept]) (_:oF H O tb ⟨some W⟩) (_:H np=some (.lst (vI [(n:Int),x,y]))) (_:H tp=some (.lst (vi b))) (_:b.length<=300) (_:oG tb rp O H Q ⟨some (bf W (GD kept ⟨n,(x,y)⟩ b)).1⟩ (bf W (GD kept ⟨n,(x,y)⟩ b)).2)
def Xx (wJ:aK aL 4 T.lB (U7)) (xP:aK aL 3 T.sm (OH)) (tG:aK aL 48 T.nT (KD))
  (pT:aK aL 4 T.kT (Kw)) (A0:aK aL 8 T.pC (Q6)) (uU:aK aL 2 T.kn (U8))
  (yT:aK aL 2 T.nh (Q7)) (wK:aK aL 1 T.lz (U9)) (gL:aK aL 1 T.iy (AV)) :
  aK aL 49 T.oB (OL):=by
 refine Y.oB.F.run kR λbx A outer s H vs Q E hr h=>?_;obtain⟨tb,np,rp,tp,O,⟨L,nx,past⟩,n,x,y,b,kept,rfl,hT,hn,hp,hl,q⟩:=h;refine#[_,(aj (aZ 4 kR.nd (aJ Y.lB wJ (hr.le rfl) aG (ae (aW (aa 0)) ao))) (aj (aZ 5 kR.nd (aJ Y.sm xP (hr.le rfl) aG (ae (aa 4) (ae (aa 1) ao)))) (aj (bG (sX (aa 5)) (aq (aD (cO (ae (df Y.xZ) ao)))) bp) (aj (aZ 6 kR.nd (aJ Y.nT tG (hr.le rfl) aG (ae (aa 2) ao))) (aj (bG (sX (aa 6)) (aq (aD (cO (ae (df Y.DM) ao)))) bp) (aj (aZ 7 kR.nd (aJ Y.kT pT (hr.le rfl) aG (ae (aa 6) (ae (aW (aa 4)) (ae (aW (aa 4)) ao))))) (aj (bG (HQ (aW (aW (aa 5))) (aa 7)) (aq (aD (cO (ae (df Y.GI) ao)))) bp) (aj (dC (aJ Y.pC A0 (hr.le rfl) aG (ae (aa 5) (ae (aa 6) (ae (aa 7) ao))))) (aj (aZ 8 kR.nd (aJ Y.iy gL (hr.le rfl) aG (ae (aJ Y.kn uU (hr.le rfl) aG (ae (aW (aa 0)) (ae (aa 4) ao))) ao))) (aj (aZ 9 kR.nd (aJ Y.iy gL (hr.le rfl) aG (ae (aJ Y.nh yT (hr.le rfl) aG (ae (aW (aa 0)) (ae (aa 4) ao))) ao))) (aj (aZ 10 kR.nd (l8 (l8 (l8 (cO (ae bL (ae (aa 7) ao))) (aa 8)) (aa 9)) (cO (ae (aJ Y.lz wK (hr.le rfl) aG (ae (aW (aa 0)) (ae (aa 4) ao))) ao)))) (aj (bG (gD (aa 3)) (aj (eR (aa 0) (zu (l8 (aW (aa 0)) (cO (ae (aW (aa 0)) ao))) (nQ (Bv (df Y.Mo))) Jf)) (aq (eR (aa 0) (aa 4)))) bp) (aq (aD (aa 10))))))))))))))),?_];obtain⟨⟨i0,e,lv,as,t1,t2,o1,o2,t3⟩,dm⟩:=id hT;obtain⟨a,rfl,SJ,ps,L3⟩:=t3;have SJ:F7 H O e a L nx:=SJ;have ps:Paired (λa L=>F7 H O e a L nx) as past.reverse:=ps;have L3:past.length<=20:=L3;obtain⟨g,bl,bs,hL,hw,hd,wD,oa,og,ob,ne1,ne2⟩:=id SJ;have h8:=hw.n8;have FU:=WF.small hw;have hgl:=hw.gl;have mh:as.length=past.length:=by have z:=ps.length;rw[List.length_reverse] at z;exact z
 refine#[_,Z,tb,_,i0,_,_,Z,t1,Y.b9.cl,Y.dM,Z,a,g,bl,bs,L,nx,Z,hL,by lia,by lia,λH1 a' g' AQ AS s1 na ng nbl nbs Lx=>?_];refine#[_,Z,_,Z,a',g',AQ,np,AS,L,nx,n,x,y,Z,Lx,s1 _ _ hn,λiU=>?_,λH2 m i cR be s2 n2 hb hs hnu Vm il hA=>?_]
 ·have er:gU L ⟨n,(x,y)⟩ b=.error (-3):=by unfold gU;rw[if_pos iU]
  rw[Ir er] at q;exact#[_,Z,_,Z,cF #[fB 1,λq1 de=>(q.mk hT).lit s1 de]]
 refine#[_,Z,_,Z,cH ?_];have s12:=s1.trans s2;refine#[_,Z,tp,b,Z,s12 _ _ hp,by lia,?_];have er0:¬ ((bM L n).isNone=true\/bV L (x,y)=false):=by rw[Vm,il];simp
 cases es:gM b with
 | error z=>
  have er:gU L ⟨n,(x,y)⟩ b=.error (-4):=by unfold gU;rw[if_neg er0,es]
  rw[Ir er] at q;intro H3 s3;exact#[_,Z,_,Z,cF #[fB 1,λq1 de=>(q.mk hT).lit (s12.trans s3) de]]
 | ok sp=>
  obtain⟨FL,zd⟩:=Ip hl es;intro H3 sl ss s3 n3 e3 MT;have s13:=s12.trans s3;have hL3:dh H3 a' g' AQ AS L nx:=(Lx.same s2).same s3;obtain⟨ez,ha⟩:=hL3.lv;have w0:=hw.w0;have w1:=hw.w1;have h0:=hw.h0;have h1:=hw.h1;refine#[_,Z,_,Z,cH ?_];refine#[_,Z,_,Z,a',_,ez,_,_,Z,ha,Y.aM.cl,Y.dW,Z,_,Z,a',_,ez,_,_,Z,ha,Y.aM.cl,Y.iM,Z,sl,ss,sp,L.w,L.h,Z,e3,MT,zd,FL,by lia,by lia,by lia,by lia,λH4 s4=>?_];have s14:=s13.trans s4;have hA4:=(hA.same s3).same s4;obtain⟨nX,hm⟩:=hA4.am;obtain⟨nW,hc⟩:=hA4.cs;refine#[_,Z,m,_,nX,_,_,Z,hm,Y.bZ.cl,Y.eJ,Z,cR,_,nW,_,_,Z,hc,Y.aR.cl,Y.mL,Z,_,Z,_,_,Z,Z,_,Z,bE (λc=>?_) (λc=>?_)]
  ·have c:=of_decide_eq_true c
   have er:gU L ⟨n,(x,y)⟩ b=.error (-6):=by
    unfold gU;rw[if_neg er0,es];show(match bM L n with | none=>_ | some c=>_)=_;rw[Vm];show(if be.mana < _ then _ else _)=_;rw[if_pos c]
   rw[Ir er] at q;exact#[fB 1,λq1 de=>(q.mk hT).lit s14 de]
  have c:¬ (be.mana < (cW L.w L.h sp:Int)):=λz=>c (decide_eq_true z);have er:gU L ⟨n,(x,y)⟩ b=.ok sp:=by
   unfold gU;rw[if_neg er0,es];show(match bM L n with | none=>_ | some c=>_)=_;rw[Vm];show(if be.mana < _ then _ else _)=_;rw[if_neg c]
  have O4:On H4 m a' g' AQ AS cR L nx be (x,y):=#[hA4,hL3.same s4,hw,yw hw (hw.ins be (aP hs)),yw hw il]
  refine#[_,Z,_,Z,_,Z,m,sl,a',g',AQ,cR,AS,ss,L,nx,i,be,(x,y),sp,Z,O4,hd,hb,hs,il,s4 _ _ e3,hZ.mono (λ_ _ z=>du.same s4 z) MT,zd,λH5 wG yx nb2 o5 amL OM=>?_];rw[hnu] at OM;have Y0:bo H H5:=λb' o' fW=>o5 b' o' (aI fW na) (aI fW ng) (λz=>by rw[nbs b' z] at fW;cases fW) (s14 _ _ fW);have ahE:H wG=none:=s14.free nb2;have hwK:=J8 hw #[n,(x,y)] sp;have hdK:=Xu hw hd #[n,(x,y)] sp il;have hnK:=Xv hw wD #[n,(x,y)] sp;have ahF:=EN hw #[n,(x,y)] sp;have ahG:=SI hw #[n,(x,y)] sp;have q:oG tb rp O H Q ⟨some (if kept=true then⟨iH L ⟨n,(x,y)⟩ sp,nx,(L::past).take 20⟩ else⟨L,nx,past⟩)⟩ (0::(cW L.w L.h sp:Int)::(bT (((iH L ⟨n,(x,y)⟩ sp).beings.filter (jJ L)).flatMap tD)++(bT ((L.beings.filter λx'=>(bM (iH L ⟨n,(x,y)⟩ sp) x'.number).isNone).map λx'=>(x'.number:Int))++[(((L.ground.zip (iH L ⟨n,(x,y)⟩ sp).ground).filter λx'=>x'.1 != x'.2).length:Int)]))):=by
   have e9:bf ⟨L,nx,past⟩ (GD kept ⟨n,(x,y)⟩ b)=(if kept=true then⟨iH L ⟨n,(x,y)⟩ sp,nx,(L::past).take 20⟩ else⟨L,nx,past⟩,0::(cW L.w L.h sp:Int)::C6 L (iH L ⟨n,(x,y)⟩ sp)):=by
    cases kept <;> simp[GD,bf,er,Vbrgah.PAST]
   rw[e9] at q;exact q
  generalize hK:iH L #[n,(x,y)] sp=K0 at *;have lm:((K0.beings.filter (jJ L)).flatMap tD).length<=32:=by
   have l1:=cY (jJ L) K0.beings;rw[jb];have z:=yt (l:=(K0.beings.filter (jJ L)).map λb=>(tD b).length) (n:=4) (λx' hx=>by obtain⟨y',_,rfl⟩:=bX.mp hx;exact aN 4);rw[ai] at z;have:=hwK.n8
   lia
  have lg:((L.beings.filter λx'=>(bM K0 x'.number).isNone).map λx'=>(x'.number:Int)).length<=8:=by
   rw[ai];exact c8 (cY _ _) h8
  generalize hmv:(K0.beings.filter (jJ L)).flatMap tD=mv at *;generalize hgn:((L.beings.filter λx'=>(bM K0 x'.number).isNone).map λx'=>(x'.number:Int))=gn at *;generalize ES:((L.ground.zip K0.ground).filter λx'=>x'.1 != x'.2).length=cc at *;have Uk:=Y0 _ _ t1;have Xy:=hL.same Y0;refine#[_,Z,tb,_,i0,_,_,Z,Uk,Y.b9.cl,Y.dM,Z,_,Z,a,g,bl,a',g',wG,bs,yx,L,K0,nx,nx,Z,Xy,OM,hwK.n8,ahF,?_];rw[hmv];intro H6 q6 s6 n6 e6;refine#[q6,mv,Z,e6,by lia,λH7 q7 s7 n7 e7=>?_];have Y1:=s6.trans s7;refine#[_,Z,tb,_,i0,_,_,Z,Y1 _ _ Uk,Y.b9.cl,Y.dM,Z,_,Z,a,g,bl,a',g',wG,bs,yx,L,K0,nx,nx,Z,Xy.same Y1,OM.same Y1,h8,?_];rw[hgn];intro H8 q8 s8 n8 e8;refine#[q8,gn,Z,e8,by lia,λH9 q9 s9 n9 e9=>?_];have s59:=Y1.trans (s8.trans s9);refine#[_,Z,fB 2,λqa hqa=>?_];have sa:=aT hqa (.lst [V.int 0,V.int ((cW L.w L.h sp:Nat):Int)]);refine#[_,Z,qa,q7,_,_,Z,Z,ah,sa _ _ (s9 _ _ (s8 _ _ e7)),by rw[yy];show 2+(_+1)<=2 ^ 24;lia,λqb hqb=>?_];have sb':=aT hqb (.lst ([V.int 0,V.int ((cW L.w L.h sp:Nat):Int)]++vI (bT mv)));refine#[_,Z,qb,q9,_,_,Z,Z,ah,sb' _ _ (sa _ _ e9),by rw[ay,yy,yy];show 2+(_+1)+(_+1)<=2 ^ 24;lia,λqc hqc=>?_];have sc:=aT hqc (.lst (([V.int 0,V.int ((cW L.w L.h sp:Nat):Int)]++vI (bT mv))++vI (bT gn)));have ON:=s59.trans (sa.trans (sb'.trans sc));refine#[_,Z,tb,_,i0,_,_,Z,ON _ _ Uk,Y.b9.cl,Y.dM,Z,_,Z,a,g,bl,a',g',wG,bs,yx,L,K0,nx,nx,Z,Xy.same ON,OM.same ON,ahG.symm,by lia,λHd sd=>?_];rw[ES];refine#[fB 1,λqd hqd=>?_];have se:=aT hqd (.lst [V.int ((cc:Nat):Int)]);refine#[qc,qd,_,_,Z,Z,se _ _ (sd _ _ ah),ah,by rw[ay,ay,yy,yy];show 2+(_+1)+(_+1)+1<=2 ^ 24;lia,λqe Y2=>?_];have sf:=aT Y2 (.lst ((([V.int 0,V.int ((cW L.w L.h sp:Nat):Int)]++vI (bT mv))++vI (bT gn))++[V.int ((cc:Nat):Int)]));have Vs:=ON.trans (sd.trans (se.trans sf));have ahH:((([V.int 0,V.int ((cW L.w L.h sp:Nat):Int)]++vI (bT mv))++vI (bT gn))++[V.int ((cc:Nat):Int)])=vI (0::(cW L.w L.h sp:Int)::(bT mv++(bT gn++[(cc:Int)]))):=by
   unfold vI;simp
  have SK:H qe=none:=Y0.free (ON.free (sd.free (se.free Y2)));rw[ahH] at sf Vs ⊢;generalize hHf:aX (aX Hd qd (.lst [V.int ((cc:Nat):Int)])) qe (.lst (vI (0::(cW L.w L.h sp:Int)::(bT mv++(bT gn++[(cc:Int)])))))=Hf at sf Vs;have OO:Hf qe=some (.lst (vI (0::(cW L.w L.h sp:Int)::(bT mv++(bT gn++[(cc:Int)]))))):=by rw[<- hHf,ah]
  have sF:bo H Hf:=Y0.trans Vs;refine#[_,Z,_,Z,?_];cases kept with
  | false=>
   refine cH #[_,Z,?_];exact q Hf qe O (hT.same sF) (λb z=>.inl z) (λb o _ z=>sF b o z) SK (λz=>dm qe z SK) OO
  | true=>
   have tF:=sF _ _ t1;have eF:=sF _ _ t2;refine cF #[_,Z,tb,_,i0,_,_,Z,tF,Y.b9.cl,Y.gE,Z,_,Z,tb,_,i0,_,_,Z,tF,Y.b9.cl,Y.dM,Z,fB 1,λqg hqg=>?_];have sg:=aT hqg (.lst [V.ref a]);refine#[e,qg,_,_,Z,Z,sg _ _ eF,ah,by rw[ai,mh];show _+1<=2 ^ 24;lia,λqh hqh=>?_];have sh:=aT hqh (.lst (as.map V.ref++[V.ref a]));refine#[_,Z,_,Z,qh,_,Z,aO.of ah,λe' oR=>?_];rw[aaE];have si:=aT oR (.lst ((as.map V.ref++[V.ref a]).drop ((as.map V.ref++[V.ref a]).length - 20)));have sJ:=sF.trans (sg.trans (sh.trans si));have tJ:=sJ _ _ t1;have e'H:H e'=none:=sF.free (sg.free (sh.free oR));have te':tb≠e':=aI t1 e'H;refine#[_,Z,tb,_,i0,_,Z,tJ,Y.b9.cl,Y.gE,by show 2 < 1000;decide,?_];rw[tT];refine#[_,Z,_,Z,tb,_,i0,_,Z,ah,Y.b9.cl,Y.dM,by show 2 < 1000;decide,?_];rw[wo,ij];refine#[_,Z,?_];have JW :∀b o,b≠tb->Hf b=some o->aX (aX (aX (aX Hf qg (.lst [V.ref a])) qh (.lst (as.map V.ref++[V.ref a]))) e' (.lst ((as.map V.ref++[V.ref a]).drop ((as.map V.ref++[V.ref a]).length - 20)))) tb (.ins T.b9.C i0 (iK (.ref a') (.ref e'))) b=some o:=λb o hb hh=>by
    rw[au hb];exact si _ _ (sh _ _ (sg _ _ hh))
   generalize hHz:aX (aX (aX (aX Hf qg (.lst [V.ref a])) qh (.lst (as.map V.ref++[V.ref a]))) e' (.lst ((as.map V.ref++[V.ref a]).drop ((as.map V.ref++[V.ref a]).length - 20)))) tb (.ins T.b9.C i0 (iK (.ref a') (.ref e')))=Hz at JW;have k' :∀b o,(O b/\b≠e/\(∃xs,o=.lst xs)\/∃C dx fs,o=.ins C dx fs/\fs.length≠2)->H b=some o->Hz b=some o:=λb o hh hb=>by
    refine JW b o ?_ (sF _ _ hb);rcases hh with⟨_,_,xs,rfl⟩ | ⟨C,dx,fs,rfl,h2⟩
    ·exact cN hb t1 (by intro y;cases y)
    exact cN hb t1 (λy=>h2 (by rw[(HO.ins.inj y).2.2];rfl))
   have aef :∀b,O b->H b≠none->b≠e->b≠e':=λb _ hb _ z=>hb (z ▸ e'H);have lvs:Paired (λa L=>F7 Hz (λb=>O b\/b=a'\/b=g'\/b=wG\/b=e') e' a L nx) (as++[a]) (past.reverse++[L]):=
    Paired.app (Paired.imp (λ_ _ z=>z.mono k' (λ_ z=>.inl z) aef) ps) (.cons (SJ.mono k' (λ_ z=>.inl z) aef) .nil)
   have lal:(as.map V.ref++[V.ref a]).length=(past.reverse++[L]).length:=by simp[mh]
   have L7:=OM.same Vs;have Vt:=sF _ _ t1;have Vu:dh Hz a' g' wG yx K0 nx:=by
    refine#[let⟨dx,z⟩:=L7.lv;#[dx,JW _ _ (cN z Vt (λy=>absurd (congrArg dA (HO.ins.inj y).2.2) (by simp[iK,gc]))) z],JW _ _ (cN L7.gr Vt (by intro y;cases y)) L7.gr,JW _ _ (cN L7.bl Vt (by intro y;cases y)) L7.bl,Paired.imp (λb st #[dx,z]=>#[dx,JW _ _ (cN z Vt (λy=>absurd (congrArg dA (HO.ins.inj y).2.2) (by simp[iK,wA,jS]))) z]) L7.be]
   have aeg:Hz qe=some (.lst (vI (0::(cW L.w L.h sp:Int)::(bT mv++(bT gn++[(cc:Int)]))))):=JW _ _ (cN OO Vt (by intro y;cases y)) OO;have e'z:Hz e'=some (.lst ((as.map V.ref++[V.ref a]).drop ((as.map V.ref++[V.ref a]).length - 20))):=by rw[<- hHz,au (Ne.symm te'),ah]
   have tz:Hz tb=some (.ins T.b9.C i0 (iK (.ref a') (.ref e'))):=by rw[<- hHz,ah]
   have in5 :∀{b o},H5 b=some o->Hf b=some o:=λ{b o} z=>Vs _ _ z;have Xz:Hf e'=none:=sg.free (sh.free oR);refine q Hz qe (λb=>O b\/b=a'\/b=g'\/b=wG\/b=e') #[#[i0,e',.ref a',(as++[a]).drop ((as.map V.ref++[V.ref a]).length - 20),tz,?_,.inl o1,.inr (.inr (.inr (.inr rfl))),a',Z,#[g',wG,yx,Vu,hwK,hdK,hnK,.inr (.inl rfl),.inr (.inr (.inl rfl)),.inr (.inr (.inr (.inl rfl))),?_,?_],?_,?_],?_] ?_ ?_ SK ?_ aeg
   ·rw[e'z,lX,br];rfl
   ·exact λz=>by have y:=L7.bl;rw[z,Xz] at y;cases y
   ·exact λz=>by have y:=L7.gr;rw[z,Xz] at y;cases y
   ·show Paired _ _ ((L::past).take 20).reverse
    rw[Xw,lal];exact Paired.drop _ lvs
   ·show((L::past).take 20).length<=20
    rw[bJ];exact Nat.min_le_left _ _
   ·intro b' fW z
    rcases fW with fW | rfl | rfl | rfl | rfl
    ·cases hh:H b' with
     | none=>exact dm b' fW hh
     | some o=>
      by_cases bt:b'=tb
      ·rw[bt,tz] at z;cases z
      rw[JW b' o bt (sF _ _ hh)] at z;cases z
    ·obtain⟨dx,y⟩:=Vu.lv
     rw[y] at z;cases z
    ·rw[Vu.gr] at z;cases z
    ·rw[Vu.bl] at z;cases z
    rw[e'z] at z;cases z
   ·intro b' fW
    rcases fW with fW | rfl | rfl | rfl | rfl
    ·exact .inl fW
    ·exact .inr (.inl na)
    ·exact .inr (.inl ng)
    ·exact .inr (.inl ahE)
    exact .inr (.inl e'H)
   ·exact λb' o nb fW=>JW b' o (λz=>nb (z ▸ o1)) (sF _ _ fW)
   rintro(fW | rfl | rfl | rfl | rfl)
   ·exact dm qe fW SK
   ·obtain⟨dx,y⟩:=Vu.lv
    rw[aeg] at y;cases y
   ·have y:H5 qe=none:=ON.free (sd.free (se.free Y2))
    have y2:=OM.gr;rw[y] at y2;cases y2
   ·have y:H5 qe=none:=ON.free (sd.free (se.free Y2))
    have y2:=OM.bl;rw[y] at y2;cases y2
   rw[Xz] at OO;cases OO
def jK (p:Nat) (b:List Nat):ur:=if p=2 then .check b else if p=3 then .print b else if p=4 then .cost b else if p=8 then .bound b else if p=9 then .apart b else .tidy b
def lV (L:aE) (p:Nat) (b:List Nat):List Int:=(bf #[L,0,[]] (jK p b)).2
def OP (W:mR) (h:p=2\/p=3\/p=4\/p=8\/p=9\/p=10) (b:List Nat):bf W (jK p b)=(W,lV W.level p b):=by
 rcases h with rfl | rfl | rfl | rfl | rfl | rfl <;> rfl
def MA (l:List Nat):vi l=vI (dw l):=by unfold vi vI dw;rw[bB];rfl
inductive OQ (vs:List V) (H:Hp) (Q:VK) (_:XK):Prop where
 | mk (tp a g bl:Addr) (bs:List Addr) (L:aE) (nx p:Nat) (b:List Nat) (_:vs=[.ref a,.int (p:Nat),.ref tp]) (_:dh H a g bl bs L nx) (_:Sp.WF L) (_:H tp=some (.lst (vi b))) (_:b.length<=300) (_:(p=2\/p=3\/p=4\/p=8\/p=9\/p=10)) (_:um (lV L p b) H Q)
theorem GF (h:um (0::bT l) H Q) (s:bo H H1) (e0:H1 q0=some (.lst [.int 0])) (e1:H1 r0=some (.lst (vI (bT l)))) (hl:l.length<=10000000) :
  M7 (.ref q0) (.ref r0) H1 Q:=
 #[q0,r0,_,_,Z,Z,e0,e1,by rw[yy];show 1+(_+1)<=2 ^ 24;lia,λp hp=>h.lit s hp]
def XA (A1:aK aL 48 T.pG (OJ)) (A2:aK aL 48 T.pH (LX)) (tG:aK aL 48 T.nT (KD))
  (zF:aK aL 7 T.qB (Rn)) (pT:aK aL 4 T.kT (Kw)) (gL:aK aL 1 T.iy (AV))
  (Cp:aK aL 5 T.qZ (Rm)) (wL:aK aL 7 T.lC (LQ)) :
  aK aL 49 T.kx (OQ):=by
 refine Y.kx.F.run y8 λbx A outer s H vs Q E hr h=>?_;obtain⟨tp,a,g,bl,bs,L,nx,p,b,rfl,hL,hw,hp,hl,iT,q⟩:=h;refine#[_,(aj (bG (dg (aa 1) (df Y.ZV)) (aq (aD (aJ Y.pG A1 (hr.le rfl) aG (ae (aa 2) ao)))) bp) (aj (bG (dg (aa 1) (df Y.ZX)) (aq (aD (aJ Y.pH A2 (hr.le rfl) aG (ae (aa 0) (ae (aa 2) ao))))) bp) (aj (aZ 3 y8.nd (aJ Y.nT tG (hr.le rfl) aG (ae (aa 2) ao))) (aj (bG (sX (aa 3)) (aq (aD (cO (ae (df Y.DM) ao)))) bp) (aj (bG (dg (aa 1) (df Y.ZW)) (aq (aD (l8 (cO (ae bL ao)) (aJ Y.qB zF (hr.le rfl) aG (ae (aa 3) ao))))) bp) (aj (bG (dg (aa 1) (df Y.acX)) (aq (aD (cO (ae bL (ae (aJ Y.kT pT (hr.le rfl) aG (ae (aa 3) (ae (aW (aa 0)) (ae (aW (aa 0)) ao)))) ao))))) bp) (aj (bG (dg (aa 1) (df Y.ZY)) (aq (aD (l8 (cO (ae bL ao)) (aJ Y.iy gL (hr.le rfl) aG (ae (aJ Y.qZ Cp (hr.le rfl) aG (ae (aa 3) ao)) ao))))) bp) (aq (aD (l8 (cO (ae bL ao)) (aJ Y.qB zF (hr.le rfl) aG (ae (aJ Y.lC wL (hr.le rfl) aG (ae (aa 3) ao)) ao)))))))))))),?_];by_cases p2:p=2
 ·subst p2
  refine#[_,Z,Z,_,Z,cF #[_,Z,tp,b,Z,hp,hl,?_]];exact q
 have d2:decide (V.int ((p:Nat):Int)=V.int 2)=false:=decide_eq_false λz=>p2 (by have:=V.int.inj z;lia);refine#[_,Z,Z,_,Z,pM d2 ?_];by_cases p8:p=8
 ·subst p8
  refine#[_,Z,Z,_,Z,cF #[_,Z,_,Z,tp,a,g,bl,bs,L,nx,b,Z,hL,hw,hp,hl,?_]];exact q
 have d8:decide (V.int ((p:Nat):Int)=V.int 8)=false:=decide_eq_false λz=>p8 (by have:=V.int.inj z;lia);refine#[_,Z,Z,_,Z,pM d8 ?_];refine#[_,Z,tp,b,Z,hp,by lia,?_];have h4:p=3\/p=4\/p=9\/p=10:=by rcases iT with h | h | h | h | h | h <;> simp_all
 cases e:gM b with
 | error z=>
  have ea:lV L p b=[-4]:=by rcases h4 with rfl | rfl | rfl | rfl <;> simp[lV,jK,bf,e]
  rw[ea] at q;intro H1 s1;exact#[_,Z,_,Z,cF #[fB 1,λq1 de=>q.lit s1 de]]
 | ok sp=>
  obtain⟨hn,zd⟩:=Ip hl e;intro H1 sl as s1 n1 e1 e2;refine#[_,Z,_,Z,cH ?_];have xh :∀Y3:cz,Y3.length<=301->(∀s∈Y3,g7 s)->(dw (eK Y3)).length<=10000000:=λY3 h1 h2=>by
   have z:=LV h2;unfold dw;rw[ai]
   lia
  by_cases p3:p=3
  ·subst p3
   have ea:lV L 3 b=0::bT (dw (eK sp)):=by simp[lV,jK,bf,e]
   rw[ea] at q;refine#[_,Z,Z,_,Z,cF #[fB 1,λq0 AY=>?_]];have s0:=aT AY (.lst [.int 0]);refine#[_,Z,sl,as,sp,Z,s0 _ _ e1,hZ.mono (λ_ _ z=>du.same s0 z) e2,zd,hn,λH2 r2 s2 n2 g2=>?_];exact GF q (s1.trans (s0.trans s2)) (s2 _ _ ah) g2 (xh sp hn zd)
  have d3:decide (V.int ((p:Nat):Int)=V.int 3)=false:=decide_eq_false λz=>p3 (by have:=V.int.inj z;lia);refine#[_,Z,Z,_,Z,pM d3 ?_];by_cases p4:p=4
  ·subst p4
   have ea:lV L 4 b=[0,(cW L.w L.h sp:Int)]:=by simp[lV,jK,bf,e]
   rw[ea] at q;obtain⟨ez,ha⟩:=(hL.same s1).lv;have:=hw.w0;have:=hw.w1;have:=hw.h0;have:=hw.h1;refine#[_,Z,Z,_,Z,cF #[_,Z,_,Z,a,_,ez,_,_,Z,ha,Y.aM.cl,Y.dW,Z,_,Z,a,_,ez,_,_,Z,ha,Y.aM.cl,Y.iM,Z,sl,as,sp,L.w,L.h,Z,e1,e2,zd,hn,by lia,by lia,by lia,by lia,λH2 s2=>?_]];exact#[fB 2,λq1 de=>q.lit (s1.trans s2) de]
  have d4:decide (V.int ((p:Nat):Int)=V.int 4)=false:=decide_eq_false λz=>p4 (by have:=V.int.inj z;lia);refine#[_,Z,Z,_,Z,pM d4 ?_];by_cases p9:p=9
  ·subst p9
   have ea:lV L 9 b=0::bT (Bh sp):=by simp[lV,jK,bf,e]
   rw[ea] at q;refine#[_,Z,Z,_,Z,cF #[fB 1,λq0 AY=>?_]];have s0:=aT AY (.lst [.int 0]);have lp:(Bh sp).length<=10000000:=by
    rw[BY];have z:=pairs_len sp sp.length;have y:sp.length * sp.length<=301 * 301:=xT hn hn
    lia
   refine#[_,Z,sl,as,sp,Z,s0 _ _ e1,hZ.mono (λ_ _ z=>du.same s0 z) e2,zd,hn,λH2 r2 s2 n2 g2=>?_];refine#[r2,_,Z,g2,lp,λH3 r3 s3 n3 g3=>?_];exact GF q (s1.trans (s0.trans (s2.trans s3))) (s3 _ _ (s2 _ _ ah)) g3 lp
  have d9:decide (V.int ((p:Nat):Int)=V.int 9)=false:=decide_eq_false λz=>p9 (by have:=V.int.inj z;lia);refine#[_,Z,Z,_,Z,pM d9 ?_];have p10:p=10:=by lia
  subst p10;have ea:lV L 10 b=0::bT (dw (eK (sp.map cS))):=by simp[lV,jK,bf,e]
  rw[ea] at q;refine#[fB 1,λq0 AY=>?_];have s0:=aT AY (.lst [.int 0]);have D6:(sp.map cS).length<=301:=by rw[ai];exact hn
  have aeh :∀s∈sp.map cS,g7 s:=λs hs=>by
   obtain⟨s',h1,rfl⟩:=bX.mp hs;exact Rh (zd s' h1)
  refine#[_,Z,sl,as,sp,Z,s0 _ _ e1,hZ.mono (λ_ _ z=>du.same s0 z) e2,zd,hn,λH2 r2 su s2 n2 g2 PH=>?_];refine#[r2,su,_,Z,g2,PH,aeh,D6,λH3 r3 s3 n3 g3=>?_];exact GF q (s1.trans (s0.trans (s2.trans s3))) (s3 _ _ (s2 _ _ ah)) g3 (xh _ D6 aeh)
def wM (p:Nat) (k:iG) (b:List Nat):ur:=if p=5 then .cast k b else if p=6 then .try_ k b else .area k b
inductive OR (vs:List V) (H:Hp) (Q:VK) (_:XK):Prop where
 | mk (tb np rp tp:Addr) (O:Addr->Prop) (W:mR) (n p:Nat) (x y:Int) (b:List Nat) (_:vs=[.ref tb,.int (p:Nat),.ref np,.ref tp]) (_:oF H O tb ⟨some W⟩) (_:H np=some (.lst (vI [(n:Int),x,y]))) (_:H tp=some (.lst (vi b))) (_:b.length<=300) (_:(p=5\/p=6\/p=7)) (_:oG tb rp O H Q ⟨some (bf W (wM p ⟨n,(x,y)⟩ b)).1⟩ (bf W (wM p ⟨n,(x,y)⟩ b)).2)
def XB (yb:aK aL 49 T.oB (OL)) (Cq:aK aL 49 T.rl (OI)) :
  aK aL 50 T.lD (OR):=by
 refine Y.lD.F.run HX λbx A outer s H vs Q E hr h=>?_;obtain⟨tb,np,rp,tp,O,W,n,p,x,y,b,rfl,hT,hn,hp,hl,iT,q⟩:=h;refine#[_,(aj (bG (dg (aa 1) (df Y.acY)) (aq (aD (aJ Y.oB yb (hr.le rfl) aG (ae (aa 0) (ae (aa 2) (ae (aa 3) (ae yk ao))))))) bp) (aj (bG (dg (aa 1) (df Y.ae8)) (aq (aD (aJ Y.oB yb (hr.le rfl) aG (ae (aa 0) (ae (aa 2) (ae (aa 3) (ae yk ao))))))) bp) (aq (aD (aJ Y.rl Cq (hr.le rfl) aG (ae (aW (aa 0)) (ae (aa 2) (ae (aa 3) ao)))))))),?_];rcases iT with rfl | rfl | rfl
 ·exact#[_,Z,Z,_,Z,cF #[_,Z,_,Z,_,Z,tb,np,rp,tp,O,W,n,x,y,b,true,Z,hT,hn,hp,hl,q]]
 ·exact#[_,Z,Z,_,Z,cH #[_,Z,Z,_,Z,cF #[_,Z,_,Z,_,Z,tb,np,rp,tp,O,W,n,x,y,b,false,Z,hT,hn,hp,hl,q]]]
 refine#[_,Z,Z,_,Z,cH #[_,Z,Z,_,Z,cH ?_]];obtain⟨⟨i0,e,lv,as,t1,t2,o1,o2,t3⟩,dm⟩:=id hT;obtain⟨a,rfl,⟨g,bl,bs,hL,hw,hd,_⟩,ps,L3⟩:=t3;have e0:bf W (wM 7 ⟨n,(x,y)⟩ b)=(W,if(bM W.level n).isNone=true\/bV W.level (x,y)=false then [-3] else match eZ b with
   | .error _=>[-4]
   | .ok ar=>0::bT ((kD W.level (gT W.level #[n,(x,y)]) ar).flatMap λc=>[c.1,c.2])):=by
  show(if(bM W.level n).isNone=true\/bV W.level (x,y)=false then(W,[-3]) else(W,_))=_;split <;> rfl
 rw[e0] at q;exact#[_,Z,tb,_,i0,_,_,Z,t1,Y.b9.cl,Y.dM,Z,_,Z,_,Z,tp,np,a,g,bl,bs,W.level,W.next,n,x,y,b,Z,hL,hw,hd,hn,hp,hl,q.mk hT]
def Y4 (p:Nat) (ns:List Int) (c:ur):Prop:=(p=1/\∃(x y l m z:Int) (s:Nat),ns=[x,y,l,m,z,(s:Int)]/\c=.being (x,y) l m z s)\/(p=11/\c=.undo)\/(p=12/\∃n:Nat,ns=[(n:Int)]/\c=.who n)\/(p=13/\c=.ground)\/(p=14/\c=.level)
inductive Rt (vs:List V) (H:Hp) (Q:VK) (_:XK):Prop where
 | mk (tb np rp:Addr) (O:Addr->Prop) (W:mR) (p:Nat) (ns:List Int) (c:ur) (_:vs=[.ref tb,.int (p:Nat),.ref np]) (_:oF H O tb ⟨some W⟩) (_:H np=some (.lst (vI ns))) (_:Y4 p ns c) (_:oG tb rp O H Q ⟨some (bf W c).1⟩ (bf W c).2)
def aaF (Cr:aK aL 4 T.rk (Rr)) (Cs:aK aL 1 T.rm (Rq)) (A3:aK aL 2 T.pI (L4))
  (gL:aK aL 1 T.iy (AV)) (A4:aK aL 2 T.pJ (L5)) :
  aK aL 5 T.ik (Rt):=by
 refine Y.ik.F.run B8 λbx A outer s H vs Q E hr h=>?_;obtain⟨tb,np,rp,O,W,p,ns,c,rfl,hT,hn,hc,q⟩:=h;refine#[_,(aj (bG (dg (aa 1) (df Y.Hn)) (aq (aD (aJ Y.rk Cr (hr.le rfl) aG (ae (aa 0) (ae (aa 2) ao))))) bp) (aj (bG (dg (aa 1) (df Y.acZ)) (aq (aD (aJ Y.rm Cs (hr.le rfl) aG (ae (aa 0) ao)))) bp) (aj (bG (dg (aa 1) (df Y.ae9)) (aq (aD (aJ Y.pI A3 (hr.le rfl) aG (ae (aW (aa 0)) (ae (bU (aa 2) bL) ao))))) bp) (aj (bG (dg (aa 1) (df Y.Wv)) (aq (aD (l8 (cO (ae bL ao)) (aJ Y.iy gL (hr.le rfl) aG (ae (aW (aW (aa 0))) ao))))) bp) (aq (aD (aJ Y.pJ A4 (hr.le rfl) aG (ae (aa 0) ao)))))))),?_];obtain⟨⟨i0,e,lv,as,t1,t2,o1,o2,t3⟩,dm⟩:=id hT;obtain⟨a,rfl,⟨g,bl,bs,hL,hw,hd,_⟩,ps,L3⟩:=t3;rcases hc with⟨rfl,x,y,l,m,z,sd,rfl,rfl⟩ | ⟨rfl,rfl⟩ | ⟨rfl,n,rfl,rfl⟩ | ⟨rfl,rfl⟩ | ⟨rfl,rfl⟩
 ·exact#[_,Z,Z,_,Z,cF #[_,Z,_,Z,tb,np,rp,O,W,x,y,l,m,z,sd,Z,hT,hn,q]]
 ·exact#[_,Z,Z,_,Z,cH #[_,Z,Z,_,Z,cF #[_,Z,tb,rp,O,W,Z,hT,q]]]
 ·refine#[_,Z,Z,_,Z,cH #[_,Z,Z,_,Z,cH #[_,Z,Z,_,Z,cF ?_]]]
  exact#[_,Z,tb,_,i0,_,_,Z,t1,Y.b9.cl,Y.dM,Z,_,Z,np,_,_,_,Z,Z,aO.of hn,kM (i:=0) rfl,a,g,bl,bs,W.level,W.next,n,Z,hL,q.mk hT]
 ·refine#[_,Z,Z,_,Z,cH #[_,Z,Z,_,Z,cH #[_,Z,Z,_,Z,cH #[_,Z,Z,_,Z,cF #[fB 1,λq0 AY=>?_]]]]]
  have s0:=aT AY (.lst [.int 0]);obtain⟨ez,ha⟩:=(hL.same s0).lv;have lg:(dw W.level.ground).length<=10000000:=by
   unfold dw;rw[ai,hw.gl];have:=WF.small hw
   lia
  refine#[_,Z,tb,_,i0,_,_,Z,s0 _ _ t1,Y.b9.cl,Y.dM,Z,a,_,ez,_,_,Z,ha,Y.aM.cl,Y.dD,Z,g,dw W.level.ground,Z,by rw[<- MA];exact s0 _ _ hL.gr,lg,λH2 r2 s2 n2 g2=>?_];exact GF (q.mk hT) (s0.trans s2) (s2 _ _ ah) g2 lg
 refine#[_,Z,Z,_,Z,cH #[_,Z,Z,_,Z,cH #[_,Z,Z,_,Z,cH #[_,Z,Z,_,Z,cH ?_]]]];exact#[_,Z,tb,O,W,Z,hT,q.mk hT]
def sI (p:Nat) (ns row:List Int):List (List Int):=((p:Int)::ns)::(if(l9 p).isSome=true then [row] else [])
def F8 {row:List Int} {lo hi:Int} (h:row.all (λc=>aY c lo hi)=true) (h0:0<=lo):row=dw (row.map dY):=by
 unfold dw;rw[bB];have :∀c∈row,(Int.ofNat ∘ dY) c=c:=λc hc=>by
  have z:=fZ.mp h c hc;unfold aY at z;rw[aB,decide_eq_true_iff,decide_eq_true_iff] at z;show((c.toNat:Nat):Int)=c
  lia
 conv=>lhs;rw[<- List.map_id row]
 exact cP λc hc=>(this c hc).symm
def OS (h:row.length<=300):xV row=if row.all (λc=>aY c 0 255)=true then some (row.map dY) else none:=by
 unfold xV;rw[decide_eq_true h,cT]
def CF (p:Nat) (ns row:List Int) (r:Option ur):Prop:=
 (p=0/\∃x y:Nat,ns=[(x:Int),(y:Int)]/\Sp.WF #[x,y,row.map dY,[]]/\r=some (.open_ x y (row.map dY))/\row=dw (row.map dY))\/
 ((p=2\/p=3\/p=4\/p=8\/p=9\/p=10)/\ns=[]/\r=some (jK p (row.map dY))/\row=dw (row.map dY))\/
 ((p=5\/p=6\/p=7)/\∃(n:Nat) (x y:Int),ns=[(n:Int),x,y]/\r=some (wM p #[n,(x,y)] (row.map dY))/\row=dw (row.map dY))\/
 ∃c,Y4 p ns c/\r=some c
def JX (hp:p < 15) (hl:ns.length=(sE p).length) (hr:row.length<=300) (iU:l9 p=none->row=[]) :
  ((uT p ns&&nZ p ns row)=false/\nH (sI p ns row)=none)\/((uT p ns&&nZ p ns row)=true/\CF p ns row (nH (sI p ns row))):=by
 have key:p=0\/(p=2\/p=3\/p=4\/p=8\/p=9\/p=10)\/(p=5\/p=6\/p=7)\/p=1\/p=11\/p=12\/p=13\/p=14:=by lia
 rcases key with rfl | ht | ha | rfl | rfl | rfl | rfl | rfl
 ·obtain⟨a,b,rfl⟩ :∃a b,ns=[a,b]:=by
   match ns,hl with
   | [a,b],_=>exact#[a,b,Z]
  have e1:nH (sI 0 [a,b] row)=Gf (aY a 2 12&&(aY b 2 12&&(decide ((row.length:Int)=a * b)&&row.all λg=>aY g 0 4))) (.open_ a.toNat b.toNat (row.map dY)):=rfl;have e2:(uT 0 [a,b]&&nZ 0 [a,b] row)=(aY a 2 12&&(aY b 2 12&&(decide ((row.length:Int)=a * b)&&row.all λg=>aY g 0 4))):=by
   have y1:uT 0 [a,b]=(aY a 2 12&&(aY b 2 12&&true)):=rfl;have y2:nZ 0 [a,b] row=(decide ((row.length:Int)=a * b)&&row.all λg=>aY g 0 4):=by
    unfold nZ;rw[if_neg (by decide)];rfl
   rw[y1,y2,nF,Bool.and_assoc]
  rw[e1,e2];generalize hc:(aY a 2 12&&(aY b 2 12&&(decide ((row.length:Int)=a * b)&&row.all λg=>aY g 0 4)))=c;cases c with
  | false=>exact .inl #[Z,Z]
  | true=>
   rw[aB,aB,aB] at hc;obtain⟨h1,h2,h3,h4⟩:=hc;unfold aY at h1 h2;rw[aB,decide_eq_true_iff,decide_eq_true_iff] at h1 h2;have h3:=of_decide_eq_true h3;refine .inr #[Z,.inl #[Z,a.toNat,b.toNat,?_,#[?_,?_,?_,?_,?_,(λx hx=>by cases hx),List.nodup_nil,bK _],Z,F8 h4 (by decide)]]
   ·rw[d6 (by lia),d6 (by lia)]
   ·show 2<=a.toNat;lia
   ·show a.toNat<=12;lia
   ·show 2<=b.toNat;lia
   ·show b.toNat<=12;lia
   show(row.map dY).length=a.toNat * b.toNat;rw[ai];have:((row.length:Nat):Int)=((a.toNat * b.toNat:Nat):Int):=by
    rw[h3,wQ,d6 (by lia),d6 (by lia)]
   exact Int.ofNat.inj this
 ·have p7:ns=[]:=by
   rcases ht with rfl | rfl | rfl | rfl | rfl | rfl <;> exact fP.mp hl
  subst p7;have e1:nH (sI p [] row)=(xV row).map (jK p):=by
   rcases ht with rfl | rfl | rfl | rfl | rfl | rfl <;> rfl
  have e2:(uT p []&&nZ p [] row)=row.all λc=>aY c 0 255:=by
   rcases ht with rfl | rfl | rfl | rfl | rfl | rfl <;> rfl
  rw[e1,e2,OS hr];cases hc:row.all λc=>aY c 0 255 with
  | false=>exact .inl #[Z,Z]
  | true=>exact .inr #[Z,.inr (.inl #[ht,Z,Z,F8 hc (by decide)])]
 ·obtain⟨n,x,y,rfl⟩ :∃n x y,ns=[n,x,y]:=by
   have h3:ns.length=3:=by rcases ha with rfl | rfl | rfl <;> exact hl
   match ns,h3 with
   | [n,x,y],_=>exact#[n,x,y,Z]
  have e1:nH (sI p [n,x,y] row)=if(ig n&&(eh x&&eh y))=true then(xV row).map (wM p ⟨n.toNat,(x,y)⟩) else none:=by
   rcases ha with rfl | rfl | rfl <;> rfl
  have e2:(uT p [n,x,y]&&nZ p [n,x,y] row)=((ig n&&(eh x&&eh y))&&row.all λc=>aY c 0 255):=by
   have y1:uT p [n,x,y]=(ig n&&(eh x&&(eh y&&true))):=by rcases ha with rfl | rfl | rfl <;> rfl
   have y2:nZ p [n,x,y] row=row.all λc=>aY c 0 255:=by rcases ha with rfl | rfl | rfl <;> rfl
   rw[y1,y2,nF]
  rw[e1,e2,OS hr];cases h1:(ig n&&(eh x&&eh y)) with
  | false=>exact .inl #[Z,Z]
  | true=>
   rw[cT,if_pos rfl];cases hc:row.all λc=>aY c 0 255 with
   | false=>exact .inl #[Z,Z]
   | true=>
    rw[aB] at h1;have h1:=h1.1;unfold ig aY at h1;rw[aB,decide_eq_true_iff,decide_eq_true_iff] at h1;exact .inr #[Z,.inr (.inr (.inl #[ha,n.toNat,x,y,by rw[d6 (by lia)],Z,F8 hc (by decide)]))]
 ·obtain⟨x,y,l,m,z,s,rfl⟩ :∃x y l m z s,ns=[x,y,l,m,z,s]:=by
   match ns,hl with
   | [x,y,l,m,z,s],_=>exact#[x,y,l,m,z,s,Z]
  have e1:nH (sI 1 [x,y,l,m,z,s] row)=Gf (eh x&&(eh y&&(aY l 1 1000&&(aY m l 1000&&(aY z 0 1000000&&aY s 0 3))))) (.being (x,y) l m z s.toNat):=rfl;have e2:(uT 1 [x,y,l,m,z,s]&&nZ 1 [x,y,l,m,z,s] row)=(eh x&&(eh y&&(aY l 1 1000&&(aY m l 1000&&(aY z 0 1000000&&aY s 0 3))))):=by
   have y1:uT 1 [x,y,l,m,z,s]=(eh x&&(eh y&&(aY l 1 1000&&(aY m 1 1000&&(aY z 0 1000000&&(aY s 0 3&&true)))))):=rfl;have y2:nZ 1 [x,y,l,m,z,s] row=decide (l<=m):=rfl;rw[y1,y2,ib];simp only[aB,aY,decide_eq_true_iff,and_true];constructor
   ·rintro⟨⟨h1,h2,h3,h4,h5,h6⟩,h7⟩
    exact#[h1,h2,h3,#[h7,h4.2],h5,h6]
   rintro⟨h1,h2,h3,h4,h5,h6⟩;exact#[#[h1,h2,h3,#[by lia,h4.2],h5,h6],h4.1]
  rw[e1,e2];generalize hc:(eh x&&(eh y&&(aY l 1 1000&&(aY m l 1000&&(aY z 0 1000000&&aY s 0 3)))))=c;cases c with
  | false=>exact .inl #[Z,Z]
  | true=>
   rw[aB,aB,aB,aB,aB] at hc;have h1:=hc.2.2.2.2.2;unfold aY at h1;rw[aB,decide_eq_true_iff,decide_eq_true_iff] at h1;exact .inr #[Z,.inr (.inr (.inr #[_,.inl #[Z,x,y,l,m,z,s.toNat,by rw[d6 (by lia)],Z],Z]))]
 ·have p7:ns=[]:=fP.mp hl
  subst p7;rw[iU rfl];exact .inr #[Z,.inr (.inr (.inr #[_,.inr (.inl #[Z,Z]),Z]))]
 ·obtain⟨n,rfl⟩ :∃n,ns=[n]:=by
   match ns,hl with
   | [n],_=>exact#[n,Z]
  have e1:nH (sI 12 [n] row)=Gf (ig n) (.who n.toNat):=rfl;have e2:(uT 12 [n]&&nZ 12 [n] row)=ig n:=by
   rw[iU rfl];have y1:uT 12 [n]=(ig n&&true):=rfl;have y2:nZ 12 [n] []=true:=rfl;rw[y1,y2,nF,nF]
  rw[e1,e2];cases h1:ig n with
  | false=>exact .inl #[Z,Z]
  | true=>
   unfold ig aY at h1;rw[aB,decide_eq_true_iff,decide_eq_true_iff] at h1;exact .inr #[Z,.inr (.inr (.inr #[_,.inr (.inr (.inl #[Z,n.toNat,by rw[d6 (by lia)],Z])),Z]))]
 ·have p7:ns=[]:=fP.mp hl
  subst p7;rw[iU rfl];exact .inr #[Z,.inr (.inr (.inr #[_,.inr (.inr (.inr (.inl #[Z,Z]))),Z]))]
 have p7:ns=[]:=fP.mp hl;subst p7;rw[iU rfl];exact .inr #[Z,.inr (.inr (.inr #[_,.inr (.inr (.inr (.inr #[Z,Z]))),Z]))]
def SM (h:ff t=.ok (s,r)):(gJ s).length+r.length<=t.length:=by
 unfold ff at h;split at h
 ·rename_i u p r0
  split at h
  ·unfold cV at h;cases h
  rename_i i hi;split at h
  ·cases h
  rename_i n s0 e1;have l1:=zk e1;split at h
  ·unfold cV at h;cases h
  split at h
  ·cases h
  rename_i a t2 e2;rw[pZ] at e2;have i2:=eu _ _ _ _ _ _ _ e2;simp at i2;split at h
  ·cases h
   unfold gJ rM;simp
   lia
  split at h
  ·cases h
  rename_i c t3 e3;rw[pZ] at e3;have i3:=eu _ _ _ _ _ _ _ e3;simp at i3;cases h;unfold gJ rM;simp
  lia
 unfold cV at h;cases h
def allI (sp:cz):Nat:=(sp.map λs=>(gJ s).length).sum
theorem HB :∀(n:Nat) (t:bF) (sp:cz),t.length<=n->SR t=.ok sp->allI sp<=n
 | 0,t,sp,hn,h=>by
  have:t=[]:=fP.mp (by lia);subst this;rw[Rw] at h;cases h
 | n+1,t,sp,hn,h=>by
  rw[Gu] at h;cases e:ff t with
  | error z=>rw[e] at h;cases h
  | ok z=>
   obtain⟨s,r⟩:=z;rw[e] at h;have l:=sU e;have w:=SM e;dsimp only at h;cases er:restOf r with
   | error z=>rw[er] at h;cases h
   | ok l'=>
    rw[er] at h;cases h;unfold restOf at er;split at er
    ·cases er
     simp[allI]
     lia
    split at er
    ·unfold cV at er;cases er
    have ih:=HB (r.drop 1).length (r.drop 1) l' (aN _) er;have:(r.drop 1).length<=r.length:=by simp
    show(gJ s).length+allI l'<=n+1
    lia
termination_by n t=>t.length
decreasing_by
 simp only[dk]
 lia
theorem D1 :∀{sp:cz},(∀s∈sp,g7 s)->(eK sp).length<=23 * sp.length+20 * allI sp
 | [],_=>bK _
 | s::r,h=>by
  have h0:=h s (by simp);have h2:=D1 (sp:=r) λx hx=>h x (by simp[hx]);have h1:(dn s).length<=21+20 * (gJ s).length:=by
   rw[AG];have a1:=Ie h0;have a2:=vv h0.area.1;have e1:(bw " on ").length=4:=rfl;have e2:(bw " when ").length=6:=rfl;unfold gJ rM;rw[ay,ay,ay];cases hc:s.cond with
   | none=>simp only[ie,b5];lia
   | some c=>
    have a4:=vv (h0.cond c hc).1;simp only[ay]
    lia
  have ha:allI (s::r)=(gJ s).length+allI r:=by simp[allI]
  cases r with
  | nil=>
   show(dn s).length<=_;simp only[aV,ie]
   lia
  | cons x q=>
   show(dn s++(bw "; " ++ eK (x::q))).length<=_;rw[ay,ay];have:(bw "; ").length=2:=rfl;simp only[aV] at h2 ⊢
   lia
def Vv (h :∀s∈sp,g7 s):allI (sp.map cS)<=allI sp:=by
 induction sp with
 | nil=>exact aN _
 | cons s r ih=>
  have h0:=h s (by simp);have h2:=ih λx hx=>h x (by simp[hx]);have z:=qW h0.area.1;have e:(gJ (cS s)).length<=(gJ s).length:=by
   unfold gJ rM;rw[ay,ay];cases hc:s.cond with
   | none=>
    have:(cS s).cond=none:=by simp[cS,hc]
    rw[this];have:=z.2;show(aQ (rB s.area)).length+_<=_;simp only[ie]
    lia
   | some c=>
    have:(cS s).cond=some (rB c):=by simp[cS,hc]
    rw[this];have y:=qW (h0.cond c hc).1;have:=z.2;have:=y.2;show(aQ (rB s.area)).length+(aQ (rB c)).length<=(aQ s.area).length+(aQ c).length
    lia
  have a1:allI (s::r)=(gJ s).length+allI r:=by simp[allI]
  have a2:allI ((s::r).map cS)=(gJ (cS s)).length+allI (r.map cS):=by simp[allI]
  lia
def SN (hl:b.length<=300) (h:gM b=.ok sp):allI sp<=301:=by
 have FK:=xE b.length 0 b (aN _);rw[<- tZ] at FK;rw[zS] at h;exact c8 (HB _ _ sp (aN _) h) (by lia)
theorem vy (l:List Int):(bT l).length=l.length+1:=rfl
def Iu (l:List Nat):(dw l).length=l.length:=by unfold dw;rw[ai]
def aaG (hb:b.length<=300) (hp:p=2\/p=3\/p=4\/p=8\/p=9\/p=10):(lV L p b).length<=100000:=by
 cases e:gM b with
 | error z=>
  cases e2:eZ b with
  | error y=>rcases hp with rfl | rfl | rfl | rfl | rfl | rfl <;> simp[lV,jK,bf,e,e2]
  | ok y=>rcases hp with rfl | rfl | rfl | rfl | rfl | rfl <;> simp[lV,jK,bf,e,e2]
 | ok sp=>
  obtain⟨hn,zd⟩:=Ip hb e;have hi:=SN hb e;rcases hp with rfl | rfl | rfl | rfl | rfl | rfl
  ·simp[lV,jK,bf,e]
  ·have z:=D1 zd
   have ea:lV L 3 b=0::bT (dw (eK sp)):=by simp[lV,jK,bf,e]
   rw[ea,aV,vy,Iu]
   lia
  ·simp[lV,jK,bf,e]
  ·cases e2:eZ b with
   | error y=>simp[lV,jK,bf,e2]
   | ok y=>simp[lV,jK,bf,e2]
  ·have z:=pairs_len sp sp.length
   rw[<- BY] at z;have y:sp.length * sp.length<=301 * 301:=xT hn hn;have ea:lV L 9 b=0::bT (Bh sp):=by simp[lV,jK,bf,e]
   rw[ea,aV,vy]
   lia
  have z:=D1 (sp:=sp.map cS) λs hs=>by
   obtain⟨s',h1,rfl⟩:=bX.mp hs;exact Rh (zd s' h1)
  have y:=Vv zd;rw[ai] at z;have ea:lV L 10 b=0::bT (dw (eK (sp.map cS))):=by simp[lV,jK,bf,e]
  rw[ea,aV,vy,Iu]
  lia
def HC (h:L.beings.length<=8) (k:M.beings.length<=8):(C6 L M).length<=100:=by
 have e:C6 L M=bT ((M.beings.filter (jJ L)).flatMap tD)++(bT ((L.beings.filter λx=>(bM M x.number).isNone).map λx=>(x.number:Int))++[(((L.ground.zip M.ground).filter λx=>x.1 != x.2).length:Int)]):=rfl;rw[e,ay,ay,vy,vy,ai,jb];have l1:=cY (jJ L) M.beings;have l2:=cY (λx=>(bM M x.number).isNone) L.beings;have z:=yt (l:=(M.beings.filter (jJ L)).map λb=>(tD b).length) (n:=4) (λx' hx=>by obtain⟨y',_,rfl⟩:=bX.mp hx;exact aN 4);rw[ai] at z;simp only[aV,ie]
 lia
def aaH (hw:Sp.WF W.level) (hp:p=5\/p=6\/p=7):(bf W (wM p k b)).2.length<=100000:=by
 rcases hp with rfl | rfl | rfl
 ·show(match gU W.level k b with | .error e=>(W,[e]) | .ok l=>_).2.length<=_
  cases e:gU W.level k b with
  | error z=>simp
  | ok sp=>
   have z:=HC hw.n8 (J8 hw k sp).n8;simp
   lia
 ·show(match gU W.level k b with | .error e=>[e] | .ok l=>_).length<=_
  cases e:gU W.level k b with
  | error z=>simp
  | ok sp=>
   have z:=HC hw.n8 (J8 hw k sp).n8;simp
   lia
 show(if(bM W.level k.who).isNone=true\/bV W.level k.target=false then(W,[-3]) else(W,match eZ b with
   | .error _=>[-4]
   | .ok ar=>0::bT ((kD W.level (gT W.level k) ar).flatMap λc=>[c.1,c.2]))).2.length<=_
 by_cases c:(bM W.level k.who).isNone=true\/bV W.level k.target=false
 ·rw[if_pos c];simp
 rw[if_neg c];cases e:eZ b with
 | error z=>simp
 | ok ar=>
  have il:bV W.level (gT W.level k).target=true:=by
   rw[JV];cases z:bV W.level k.target with
   | false=>exact absurd (.inr z) c
   | true=>rfl
  show(0::bT ((kD W.level (gT W.level k) ar).flatMap λc=>[c.1,c.2])).length<=_;rw[jd hw.lZ il,aV,vy,jb];have l1:=cY (has W.level (gT W.level k) ar) (iO W.level);rw[EF W.level hw.lZ] at l1;have l2:=WF.small hw;have z:=yt (l:=((iO W.level).filter (has W.level (gT W.level k) ar)).map λc=>([c.1,c.2]:List Int).length) (n:=2) (λx' hx=>by obtain⟨y',_,rfl⟩:=bX.mp hx;exact aN 2);rw[ai] at z
  lia
def aei (hw:Sp.WF W.level) (h:Y4 p ns c):(bf W c).2.length<=100000:=by
 have h8:=hw.n8;rcases h with⟨_,x,y,l,m,z,s,_,rfl⟩ | ⟨_,rfl⟩ | ⟨_,n,_,rfl⟩ | ⟨_,rfl⟩ | ⟨_,rfl⟩
 ·show(if bV W.level (x,y)=false then(W,[-3]) else if fw W.level (x,y)=false then(W,[-4]) else if EC<=W.level.beings.length then(W,[-5]) else(_,[0,(W.next:Int)])).2.length<=_
  split
  ·simp
  split
  ·simp
  split <;> simp
 ·show(match W.past with | []=>(W,[-8]) | K::r=>_).2.length<=_
  split <;> simp
 ·show(match bM W.level n with | none=>[-3] | some b=>0::(jC b).drop 1).length<=_
  split <;> simp[jC]
 ·show(0::bT (dw W.level.ground)).length<=_
  rw[aV,vy,Iu,hw.gl];have:=WF.small hw
  lia
 show(0::(W.level.w:Int)::(W.level.h:Int)::(W.next:Int)::(W.past.length:Int)::bT (W.level.beings.flatMap jC)).length<=_;simp only[aV,vy,jb];have z:=yt (l:=W.level.beings.map λb=>(jC b).length) (n:=7) (λx' hx=>by obtain⟨y',_,rfl⟩:=bX.mp hx;exact aN 7);rw[ai] at z
 lia
def vz (h :∀x y g,c≠.open_ x y g):fz #[none] c=(#[none],[-2]):=by
 cases c <;> first | rfl | exact absurd rfl (h _ _ _)
def vA (h :∀x y g,c≠.open_ x y g):fz #[some W] c=(#[some (bf W c).1],(bf W c).2):=by
 cases c <;> first | rfl | exact absurd rfl (h _ _ _)
def D3 (hp:p=2\/p=3\/p=4\/p=8\/p=9\/p=10) :∀x y g,jK p b≠.open_ x y g:=by
 intro x y g z;rcases hp with rfl | rfl | rfl | rfl | rfl | rfl <;> cases z
def D5 (hp:p=5\/p=6\/p=7) :∀x y g,wM p k b≠.open_ x y g:=by
 intro x y g z;rcases hp with rfl | rfl | rfl <;> cases z
def JY (h:Y4 p ns c) :∀x y g,c≠.open_ x y g:=by
 intro x y g z;rcases h with⟨_,x,y,l,m,z,s,_,rfl⟩ | ⟨_,rfl⟩ | ⟨_,n,_,rfl⟩ | ⟨_,rfl⟩ | ⟨_,rfl⟩ <;> cases z
def oF.wf (h:oF H O tb #[some W]):Sp.WF W.level:=by
 obtain⟨⟨dx,e,lv,as,_,_,_,_,a,_,⟨g,bl,bs,_,hw,_⟩,_⟩,_⟩:=h;exact hw
theorem oG.on (h:oG tb rp O H Q S l) (s:bo H H1):oG tb rp O H1 Q S l:=λH' q O' a b c d e f=>
 h H' q O' a (λx z=>(b x z).imp id λz=>z.imp (λz=>s.free z) id) (λx o n z=>c x o n (s _ _ z)) (s.free d) e f
def aaI (hT:oF H O tb S) (hp:p < 15) (hl:ns.length=(sE p).length) (hr:row.length<=300) (iU:l9 p=none->row=[]):(iC S (sI p ns row)).2.length<=100000:=by
 unfold iC;obtain⟨Wo⟩:=S;have CZ:(row.map dY).length<=300:=by rw[ai];exact hr
 rcases JX hp hl hr iU with⟨_,h⟩ | ⟨_,h⟩
 ·rw[h];simp
 rcases h with⟨rfl,x,y,_,_,e,_⟩ | ⟨h1,_,e,_⟩ | ⟨h1,n,x,y,_,e,_⟩ | ⟨c,h1,e⟩
 ·rw[e]
  show(fz _ (.open_ _ _ _)).2.length<=_;cases Wo <;> exact ag rfl
 ·rw[e]
  show(fz _ _).2.length<=_;cases Wo with
  | none=>rw[vz (D3 h1)];simp
  | some W=>
   rw[vA (D3 h1),OP W h1];exact aaG CZ h1
 ·rw[e]
  show(fz _ _).2.length<=_;cases Wo with
  | none=>rw[vz (D5 h1)];simp
  | some W=>
   rw[vA (D5 h1)];exact aaH hT.wf h1
 rw[e];show(fz _ _).2.length<=_;cases Wo with
 | none=>rw[vz (JY h1)];simp
 | some W=>
  rw[vA (JY h1)];exact aei hT.wf h1
inductive Iv (vs:List V) (H:Hp) (Q:VK) (_:XK):Prop where
 | mk (tb np rp:Addr) (O:Addr->Prop) (S:sT) (p:Nat) (ns row:List Int) (_:vs=[.ref tb,.int (p:Nat),.ref np,.ref rp]) (_:oF H O tb S) (_:p < 15) (_:H np=some (.lst (vI ns))) (_:ns.length=(sE p).length) (_:H rp=some (.lst (vI row))) (_:row.length<=300) (_:(l9 p=none->row=[])) (_:¬ O rp) (_:oG tb rp O H Q (iC S (sI p ns row)).1 (iC S (sI p ns row)).2)
def XC (yU:aK aL 2 T.nu (Vp)) (yV:aK aL 3 T.nv (OK))
  (pU:aK aL 5 T.ik (Rt)) (wN:aK aL 50 T.lD (OR))
  (uV:aK aL 49 T.kx (OQ)) :
  aK aL 51 T.rj (Iv):=by
 refine Y.rj.F.run Nr λbx A outer s H vs Q E hr h=>?_;obtain⟨tb,np,rp,O,⟨Wo⟩,p,ns,row,rfl,hT,hp,hn,CY,F6,CZ,iU,nO,q⟩:=h;refine#[_,(aj (bG (uz (gD (aJ Y.nu yU (hr.le rfl) aG (ae (aa 1) (ae (aa 2) (ae (aa 3) ao)))))) (aq (aD (cO (ae (df Y.DL) ao)))) bp) (aj (bG (dg (aa 1) (df Y.FA)) (aq (aD (aJ Y.nv yV (hr.le rfl) aG (ae (aa 0) (ae (aa 2) (ae (aa 3) ao)))))) bp) (aj (bG (sX (aW (aa 0))) (aq (aD (cO (ae (df Y.Sd) ao)))) bp) (aj (bG (sX (jE (jE (mX Y.iL.m) (aa 1)) bL)) (aq (aD (aJ Y.ik pU (hr.le rfl) aG (ae (aa 0) (ae (aa 1) (ae (aa 2) ao)))))) bp) (aj (bG (Ji (aa 2)) (aq (aD (aJ Y.lD wN (hr.le rfl) aG (ae (aa 0) (ae (aa 1) (ae (aa 2) (ae (aa 3) ao))))))) bp) (aq (aD (aJ Y.kx uV (hr.le rfl) aG (ae (aW (aa 0)) (ae (aa 1) (ae (aa 3) ao))))))))))),?_];refine#[_,Z,_,Z,_,Z,p,np,rp,ns,row,Z,hp,hn,CY,F6,CZ,iU,λH1 s1=>#[_,Z,?_]];unfold iC at q;have q:=q.on s1;have hT:=hT.same s1;have hn:=s1 _ _ hn;have F6:=s1 _ _ F6;have aej:(row.map dY).length<=300:=by rw[ai];exact CZ
 rcases JX hp CY CZ iU with⟨eb,e⟩ | ⟨eb,h⟩
 ·rw[e] at q
  rw[eb];exact cF #[fB 1,λq1 de=>(q.mk hT).lit (same_refl H1) de]
 rw[eb];refine cH ?_;rcases h with⟨rfl,x,y,rfl,hw,e,er⟩ | h
 ·rw[e] at q
  have q:oG tb rp O H1 Q ⟨some ⟨⟨x,y,row.map dY,[]⟩,1,[]⟩⟩ [0]:=by
   cases Wo <;> exact q
  exact#[_,Z,Z,_,Z,cF #[_,Z,_,Z,_,Z,tb,np,rp,O,#[Wo],x,y,row.map dY,Z,hT,hn,by rw[F6,MA,<- er],nO,hw,q]]
 have p0:p≠0:=by
  rcases h with⟨h1,_⟩ | ⟨h1,_⟩ | ⟨c,h1,_⟩
  ·lia
  ·lia
  rcases h1 with⟨h1,_⟩ | ⟨h1,_⟩ | ⟨h1,_⟩ | ⟨h1,_⟩ | ⟨h1,_⟩ <;> lia
 have d0:decide (V.int ((p:Nat):Int)=V.int 0)=false:=decide_eq_false λz=>p0 (by have:=V.int.inj z;lia);refine#[_,Z,Z,_,Z,pM d0 ?_];obtain⟨⟨i0,e,lv,as,t1,t2,o1,o2,t3⟩,dm⟩:=id hT;refine#[_,Z,tb,_,i0,_,_,Z,t1,Y.b9.cl,Y.dM,Z,_,Z,?_];cases Wo with
 | none=>
  obtain⟨rfl,rfl⟩:=t3;have q:oG tb rp O H1 Q ⟨none⟩ [-2]:=by
   rcases h with⟨h1,_,e,_⟩ | ⟨h1,n,x,y,_,e,_⟩ | ⟨c,h1,e⟩
   ·rw[e] at q
    have q:oG tb rp O H1 Q (fz ⟨none⟩ (jK p (row.map dY))).1 (fz ⟨none⟩ (jK p (row.map dY))).2:=q;rw[vz (D3 h1)] at q;exact q
   ·rw[e] at q
    have q:oG tb rp O H1 Q (fz ⟨none⟩ (wM p ⟨n,(x,y)⟩ (row.map dY))).1 (fz ⟨none⟩ (wM p ⟨n,(x,y)⟩ (row.map dY))).2:=q;rw[vz (D5 h1)] at q;exact q
   rw[e] at q;have q:oG tb rp O H1 Q (fz ⟨none⟩ c).1 (fz ⟨none⟩ c).2:=q;rw[vz (JY h1)] at q;exact q
  exact cF #[fB 1,λq1 de=>(q.mk hT).lit (same_refl H1) de]
 | some W=>
  obtain⟨a,rfl,⟨g,bl,bs,hL,hw,_⟩,_⟩:=t3;refine cH ?_;obtain⟨xs,rs,c,r,rv,c1,c2,c3,c4,c5,c6,c7⟩:=AZ H1 hp;refine#[_,Z,T.iL,_,_,_,Z,Z,c1,b8 (j:=p) c2,c,_,_,_,Z,Z,c3,b8 (j:=1) rfl,_,Z,?_];rcases h with⟨h1,rfl,e,er⟩ | ⟨h1,n,x,y,rfl,e,er⟩ | ⟨cc,h1,e⟩
  ·have Vw:decide (rv=V.cj)=false:=by
    have:l9 p=some (0,255):=by rcases h1 with rfl | rfl | rfl | rfl | rfl | rfl <;> rfl
    rw[this] at c7;obtain⟨b,rfl,_⟩:=c7;rfl
   refine pM Vw ?_;rw[e] at q;have q:oG tb rp O H1 Q (fz ⟨some W⟩ (jK p (row.map dY))).1 (fz ⟨some W⟩ (jK p (row.map dY))).2:=q;rw[vA (D3 h1),OP W h1] at q;refine#[_,Z,_,.inl #[_,aO.of hn,Z],cH ?_];exact#[_,Z,tb,_,i0,_,_,Z,t1,Y.b9.cl,Y.dM,Z,_,Z,_,Z,rp,a,g,bl,bs,W.level,W.next,p,row.map dY,Z,hL,hw,by rw[F6,MA,<- er],aej,h1,q.mk hT]
  ·have Vw:decide (rv=V.cj)=false:=by
    have:l9 p=some (0,255):=by rcases h1 with rfl | rfl | rfl <;> rfl
    rw[this] at c7;obtain⟨b,rfl,_⟩:=c7;rfl
   refine pM Vw ?_;rw[e] at q;have q:oG tb rp O H1 Q (fz ⟨some W⟩ (wM p ⟨n,(x,y)⟩ (row.map dY))).1 (fz ⟨some W⟩ (wM p ⟨n,(x,y)⟩ (row.map dY))).2:=q;rw[vA (D5 h1)] at q;refine#[_,Z,_,.inl #[_,aO.of hn,Z],cF ?_];exact#[_,Z,_,Z,_,Z,_,Z,tb,np,rp,rp,O,W,n,p,x,y,row.map dY,Z,hT,hn,by rw[F6,MA,<- er],aej,h1,q]
  have Vw:decide (rv=V.cj)=true:=by
   have:l9 p=none:=by rcases h1 with⟨rfl,_⟩ | ⟨rfl,_⟩ | ⟨rfl,_⟩ | ⟨rfl,_⟩ | ⟨rfl,_⟩ <;> rfl
   rw[this] at c7;rw[c7];rfl
  refine So Vw ?_;rw[e] at q;have q:oG tb rp O H1 Q (fz ⟨some W⟩ cc).1 (fz ⟨some W⟩ cc).2:=q;rw[vA (JY h1)] at q;exact#[_,Z,_,Z,_,Z,tb,np,rp,O,W,p,ns,cc,Z,hT,hn,h1,q]
def XG (h:cZ q=some (n,k)) :∃p:Nat,q=(p:Int)/\p < 15/\n=(sE p).length/\((k=1/\(l9 p).isSome=true)\/(k=0/\l9 p=none)):=by
 rcases GN h with⟨rfl,rfl,rfl⟩ | ⟨rfl,rfl,rfl⟩ | ⟨rfl,rfl,rfl⟩ | ⟨rfl,rfl,rfl⟩ | ⟨rfl,rfl,rfl⟩ | ⟨rfl,rfl,rfl⟩ | ⟨rfl,rfl,rfl⟩ | ⟨rfl,rfl,rfl⟩ | ⟨rfl,rfl,rfl⟩ | ⟨rfl,rfl,rfl⟩ | ⟨rfl,rfl,rfl⟩ | ⟨rfl,rfl,rfl⟩ | ⟨rfl,rfl,rfl⟩ | ⟨rfl,rfl,rfl⟩ | ⟨rfl,rfl,rfl⟩
 ·exact#[0,Z,by decide,Z,.inl #[Z,Z]]
 ·exact#[1,Z,by decide,Z,.inr #[Z,Z]]
 ·exact#[2,Z,by decide,Z,.inl #[Z,Z]]
 ·exact#[3,Z,by decide,Z,.inl #[Z,Z]]
 ·exact#[4,Z,by decide,Z,.inl #[Z,Z]]
 ·exact#[5,Z,by decide,Z,.inl #[Z,Z]]
 ·exact#[6,Z,by decide,Z,.inl #[Z,Z]]
 ·exact#[7,Z,by decide,Z,.inl #[Z,Z]]
 ·exact#[8,Z,by decide,Z,.inl #[Z,Z]]
 ·exact#[9,Z,by decide,Z,.inl #[Z,Z]]
 ·exact#[10,Z,by decide,Z,.inl #[Z,Z]]
 ·exact#[11,Z,by decide,Z,.inr #[Z,Z]]
 ·exact#[12,Z,by decide,Z,.inr #[Z,Z]]
 ·exact#[13,Z,by decide,Z,.inr #[Z,Z]]
 exact#[14,Z,by decide,Z,.inr #[Z,Z]]
def aaJ {f i:Nat} {l:List Int} {cs:List (List (List Int))} (h:d7 cZ f (l.drop i)=some cs) (hi:i < l.length) :
  ∃(p:Nat) (ns row:List Int) (cs':List (List (List Int))) (f' i':Nat),l[i]?=some (p:Int)/\p < 15/\ns.length=(sE p).length/\i+1+ns.length<=l.length/\(l.drop (i+1)).take ns.length=ns/\cs=sI p ns row::cs'/\d7 cZ f' (l.drop i')=some cs'/\i < i'/\i'<=l.length/\
   ((l9 p=none/\row=[]/\i'=i+1+ns.length)\/((l9 p).isSome=true/\l[i+1+ns.length]?=some (row.length:Int)/\i'=i+1+ns.length+1+row.length/\(l.drop (i+1+ns.length+1)).take row.length=row)):=by
 rw[<- gX hi] at h;obtain⟨n,k,xs,t,cs',f',hs,hn,SO,L8,MB⟩:=Ry h;obtain⟨p,ep,hp,Y5,hk⟩:=XG hs;have hdl:(l.drop (i+1)).length=l.length - (i+1):=dk;have htl:((l.drop (i+1)).take n).length=n:=by rw[bJ];lia
 refine#[p,(l.drop (i+1)).take n,?_];rw[htl];rcases hk with⟨rfl,hk⟩ | ⟨rfl,hk⟩
 ·obtain⟨m,r',e1,m0,ml,rfl,rfl⟩:=MI SO
  rw[tI] at e1;have TK:i+1+n < l.length:=by
   have z:=congrArg dA e1;rw[dk,aV] at z
   lia
  have er:r'=l.drop (i+1+n+1):=by
   have z:=gX TK;rw[e1] at z;exact(vB.inj z).2.symm
  have em:l[i+1+n]?=some m:=by
   have z:=gX TK;rw[e1] at z;rw[aw TK,(vB.inj z).1]
  have CZ:(r'.take m.toNat).length=m.toNat:=by rw[bJ];lia
  have amM:r'.length=l.length - (i+1+n+1):=by rw[er,dk]
  refine#[r'.take m.toNat,cs',f',i+1+n+1+m.toNat,?_,hp,Y5,by lia,Z,?_,?_,by lia,by lia,.inr #[hk,?_,by rw[CZ],by rw[CZ,er]]]
  ·rw[aw hi,ep]
  ·rw[L8,ep]
   unfold sI;rw[if_pos hk]
  ·rw[er,tI] at MB
   exact MB
  rw[em,CZ,d6 m0]
 obtain⟨rfl,rfl⟩:=KR SO;refine#[[],cs',f',i+1+n,?_,hp,Y5,by lia,Z,?_,?_,by lia,by lia,.inl #[hk,Z,Z]]
 ·rw[aw hi,ep]
 ·rw[L8,ep]
  unfold sI;rw[if_neg (by rw[hk];simp)]
 rw[tI] at MB;exact MB
def Vx (hp:p < 15) (hl:ns.length=(sE p).length) (hs:(l9 p).isSome=true) (h:jO (sI p ns row)=true):row.length<=300:=by
 have key:p=0\/(p=2\/p=3\/p=4\/p=8\/p=9\/p=10)\/(p=5\/p=6\/p=7):=by
  unfold l9 at hs;by_cases h0:p=0
  ·exact .inl h0
  rw[if_neg h0] at hs;by_cases h1:p=1\/11<=p
  ·rw[if_pos h1] at hs;cases hs
  lia
 rcases key with rfl | ht | ha
 ·match ns,hl with
  | [a,b],_=>
   have z:(gB a&&(gB b&&(decide (row.length<=300)&&row.all λz=>gB z)))=true:=h;simp only[aB,decide_eq_true_iff] at z;exact z.2.2.1
 ·have p7:ns=[]:=by
   rcases ht with rfl | rfl | rfl | rfl | rfl | rfl <;> exact fP.mp hl
  subst p7;have z:(decide (row.length<=300)&&row.all λz=>gB z)=true:=by
   rcases ht with rfl | rfl | rfl | rfl | rfl | rfl <;> exact h
  simp only[aB,decide_eq_true_iff] at z;exact z.1
 have h3:ns.length=3:=by rcases ha with rfl | rfl | rfl <;> exact hl
 match ns,h3 with
 | [n,x,y],_=>
  have z:(gB n&&(gB x&&(gB y&&(decide (row.length<=300)&&row.all λz=>gB z))))=true:=by
   rcases ha with rfl | rfl | rfl <;> exact h
  simp only[aB,decide_eq_true_iff] at z;exact z.2.2.2.1
def Ru {l:List Int} {a b:Int} {i n:Nat} (ha:a=(i:Int)) (hb:b=((i+n:Nat):Int)) (h:i+n<=l.length):pd (vI l) (some a) (some b)=vI ((l.drop i).take n):=by
 subst ha hb;unfold pd;rw[HT.xq,HT.xq,jw,jP h,jP (show i<=l.length by lia),tP];unfold vI;rw[lY,lX]
inductive JZ (vs:List V) (H:Hp) (Q:VK) (_:XK):Prop where
 | mk (x dx:Addr) (_:vs=[.ref x]) (_:H x=some (.ins T.b9.C dx [])) (_ :∀H' e,H e=none->H' x=some (.ins T.b9.C dx (iK .cj (.ref e)))->H' e=some (.lst [])->(∀b,b≠x->b≠e->H' b=H b)->Q .cj H')
def SQ:wu aL 1 T.b9 (JZ):=by
 refine Y.b9.F.run Mi λbx A outer s H vs Q E hr h=>?_;obtain⟨x,dx,rfl,hx,q⟩:=h;refine#[_,(aj (eR (aa 0) Lk) (aq (eR (aa 0) (cO ao)))),?_];refine#[_,Z,x,_,dx,_,Z,hx,Y.b9.cl,Y.dM,ag rfl,?_];refine#[bK _,λe he=>?_];have cG:x≠e:=λz=>by rw[<- z,ah] at he;cases he
 refine#[_,Z,x,_,dx,_,Z,by rw[au cG];exact ah,Y.b9.cl,Y.gE,ag rfl,?_];refine q _ e ?_ ah ?_ λb h1 h2=>?_
 ·rw[au (Ne.symm cG)] at he
  exact he
 ·rw[au (Ne.symm cG),ah]
 rw[au h1,au h2,au h1]
def aek:Sp:=λvs H Q _=>∃(cp:Addr) (l:List Int) (cs:List (List (List Int))),vs=[.ref cp]/\aO K H cp (vI l)/\l.length<=20000/\d7 cZ l.length l=some cs/\cs.length<=100/\(∀c∈cs,jO c=true)/\
 ∀H' q,H' q=some (.lst (vI (rA (nE fU rD cs))))->Q (.ref q) H'
def OT {H H':Hp} {a:Addr} {xs:List V} (e:bo H H') (h:aO K H a xs):aO K H' a xs:=by
 rcases h with(h | ⟨o,h⟩) | h
 ·exact .inl (.inl (e _ _ h))
 ·exact .inl (.inr #[o,e _ _ h])
 exact .inr h
def XH (H:Hp) (cp tb D:Addr) (l di:List Int) (i:Nat) (σ : L2.St) (Hc:Hp):Prop:=∃(S:sT) (O:Addr->Prop) (cs:List (List (List Int))) (done:List Int) (f:Nat) (z4 z5 z6 z7 z8:Option V),
 σ = [some (.ref cp),some (.ref tb),some (.ref D),some (.int ((i:Nat):Int)),z4,z5,z6,z7,z8]/\oF Hc O tb S/\bo H Hc/\(∀b,O b->H b=none)/\¬ O D/\H D=none/\Hc D=some (.lst (vI done))/\i<=l.length/\d7 cZ f (l.drop i)=some cs/\
 done++rA (nE fU S cs)=di/\(∀c∈cs,jO c=true)/\done.length+100001 * cs.length<=100001 * 100
def OU {H Hx:Hp} {cp tb D np rp:Addr} {l di done ns row:List Int} {i' f' p:Nat} {S:sT} {O:Addr->Prop} {cs':List (List (List Int))} {De:Ends} {atv:Int} {ne:V} {z8:Option V}
  (Qs:atv=((i':Nat):Int)) (hT:oF Hx O tb S) (sH:bo H Hx) (hO :∀b,O b->H b=none) (Vy:¬ O D) (Yg:H D=none) (hD:Hx D=some (.lst (vI done))) (rR:i'<=l.length) (L8:d7 cZ f' (l.drop i')=some cs')
  (XI:done++rA (nE fU S (sI p ns row::cs'))=di) (Iw :∀c∈sI p ns row::cs',jO c=true) (eP:done.length+100001 * (sI p ns row::cs').length<=100001 * 100)
  (hp:p < 15) (hn:Hx np=some (.lst (vI ns))) (CY:ns.length=(sE p).length) (hr:Hx rp=some (.lst (vI row))) (iU:l9 p=none->row=[]) (nOr:¬ O rp) (hrD:rp≠D) (hrH:H rp=none)
  (hN :∀σ' H',XH H cp tb D l di i' σ' H'->De.nx σ' H') :
  rC (vN (E8 (Iv) E0 (eM (bR 1) (eM (bR 4) (eM (bR 6) (eM (bR 7) lO))))) (l5 8)) (rC (Bo (Wr K (bR 2) (t1 (acG K) (bR 8)))) (Bo (Ws K (bR 2) (bR 8)))) De
   [some (.ref cp),some (.ref tb),some (.ref D),some (.int atv),some (.int ((p:Nat):Int)),some ne,some (.ref np),some (.ref rp),z8] Hx:=by
 have CZ:row.length<=300:=by
  by_cases hs:(l9 p).isSome=true
  ·exact Vx hp CY hs (Iw _ (by simp))
  have:l9 p=none:=by cases h:l9 p with
   | none=>rfl
   | some x=>rw[h] at hs;exact absurd rfl hs
  rw[iU this];exact bK _
 have mh:=aaI hT hp CY CZ iU;refine#[_,Z,_,Z,_,Z,_,Z,tb,np,rp,O,S,p,ns,row,Z,hT,hp,hn,CY,hr,CZ,iU,nOr,λH' q O' hT' sub keep nq nOq hq=>?_];have hsn:fU S (sI p ns row)=iC S (sI p ns row):=rfl;generalize ahI:(iC S (sI p ns row)).2=ans at *;generalize fk:(iC S (sI p ns row)).1=S' at *;have hDk:H' D=some (.lst (vI done)):=keep D _ Vy hD;have hDq:D≠q:=aI hD nq;have lcs:done.length+100001 * (cs'.length+1)<=100001 * 100:=by rw[aV] at eP;exact eP
 refine#[_,Z,.inl #[Z,_,aO.of hDk],_,Z,q,_,Z,.inl (aO.of hq),D,_,Z,hDk,by rw[jw];show _ < 2 ^ 24;lia,?_];refine#[_,Z,.inl #[Z,_,aO.of ah],_,Z,D,q,_,_,Z,Z,ah,by rw[au (Ne.symm hDq)];exact hq,by rw[ay,jw,jw];show _+1+_<=2 ^ 24;lia,?_];rw[ij];have aem:¬ O' D:=λz=>by
  rcases sub D z with z | z | z
  ·exact Vy z
  ·rw[hD] at z;cases z
  exact hrD z.symm
 refine hN _ _ #[S',O',cs',done++((ans.length:Int)::ans),f',_,_,_,_,_,by rw[Qs];rfl,hT'.on λb o hb hh=>?_,λb o hb=>?_,λb hb=>?_,aem,Yg,?_,rR,L8,?_,λc hc=>Iw c (by simp[hc]),?_]
 ·refine(au λz=>?_).trans hh
  rcases hb with hb | ⟨C,dx,fs,rfl⟩
  ·exact aem (z ▸ hb)
  rw[z,hDk] at hh;cases hh
 ·rw[au (aI hb Yg)]
  exact keep b o (λz=>by rw[hO b z] at hb;cases hb) (sH _ _ hb)
 ·rcases sub b hb with z | z | z
  ·exact hO b z
  ·exact sH.free z
  rw[z];exact hrH
 ·rw[ah,jw,gm,AU]
  rfl
 ·rw[<- XI]
  show _=done++rA ((fU S (sI p ns row)).2::nE fU (fU S (sI p ns row)).1 cs');rw[hsn,ahI,fk,gm];rfl
 rw[ay,aV]
 lia
def aen (A5:wu aL 1 T.b9 (JZ)) (Ct:aK aL 51 T.rj (Iv)) :
  aK aL 52 T.ju (aek):=by
 refine Y.ju.F.run jj λbx A outer s H vs Q E hr h=>?_;obtain⟨cp,l,cs0,rfl,hcp,hll,ahJ,amD,afn,q⟩:=h;refine#[_,(aj (aZ 1 jj.nd (ae4 Y.b9.ug Y.b9.b Y.b9.m A5 (hr.le rfl) aG)) (aj (aZ 2 jj.nd (cO ao)) (aj (aZ 3 jj.nd bL) (aj (u9 PassesOwn.never (HQ (aa 3) (ir Y.iu (aa 0))) (aj (aZ 4 jj.nd (bU (aa 0) (aa 3))) (aj (aZ 5 jj.nd (iX (iX (aa 3) bL) (ir Y.iu (jE (jE (mX Y.iL.m) (aa 4)) bL)))) (aj (aZ 6 jj.nd (zu (aa 0) (nQ (iX (aa 3) bL)) (nQ (aa 5)))) (aj (aZ 7 jj.nd (cO ao)) (aj (aZ 3 jj.nd (aa 5)) (aj (bG (E7 (jE (jE (mX Y.iL.m) (aa 4)) bL)) (aj (aZ 3 jj.nd (iX (iX (aa 5) bL) (bU (aa 0) (aa 5)))) (aq (aZ 7 jj.nd (zu (aa 0) (nQ (iX (aa 5) bL)) (nQ (aa 3)))))) bp) (aj (aZ 8 jj.nd (aJ Y.rj Ct (hr.le rfl) aG (ae (aa 1) (ae (aa 4) (ae (aa 6) (ae (aa 7) ao)))))) (aj (dC (qt (aa 2) (ir Y.iu (aa 8)))) (aq (dC (DE (aa 2) (aa 8))))))))))))) (aq (aD (aa 2))))))),?_];intro tb dx htb iV cG;have sS:=jv htb iV cG (.own tb) (.ins T.b9.C dx []);refine#[tb,dx,Z,ah,λH1 e he g1 g2 g3=>#[Z,?_]];have heH:H e=none:=sS.free he;have s1:bo H H1:=λb o hb=>by
  rw[g3 b (aI hb htb) (aI hb heH)];exact sS b o hb
 refine#[bK _,λD hD=>?_];have sD:=aT hD (.lst []);have hDH:H D=none:=s1.free hD;generalize XI:rA (nE fU rD cs0)=di at q;refine#[λm σ Hc=>∃i,m=l.length - i/\XH H cp tb D l di i σ Hc,#[l.length - 0,0,Z,#[none],λb=>b=tb\/b=e,cs0,[],l.length,none,none,none,none,none,Z,#[#[dx,e,.cj,[],sD _ _ g1,sD _ _ g2,.inl rfl,.inr rfl,Z,Z],?_],s1.trans sD,?_,?_,hDH,ah,bK _,ahJ,XI,afn,?_],?_]
 ·rintro b (rfl | rfl) z
  ·rw[sD _ _ g1] at z;cases z
  rw[sD _ _ g2] at z;cases z
 ·rintro b (rfl | rfl)
  ·exact htb
  exact heH
 ·rintro(rfl | rfl)
  ·rw[g1] at hD;cases hD
  rw[g2] at hD;cases hD
 ·simp only[ie];lia
 rintro m σ Hc ⟨i,em,S,O,cs,done,f,z4,z5,z6,z7,z8,rfl,hT,hS,hO,Vy,_,Vz,hi,L8,SS,Iw,eP⟩;have sq:aO K Hc cp (vI l):=OT hS hcp;refine#[_,Z,_,Z,cp,_,Z,.inl sq,_,_,Z,Z,_,Z,?_];rw[jw];refine bE (λc=>?_) (λc=>?_)
 ·have c:i < l.length:=by have:=of_decide_eq_true c;lia
  obtain⟨p,ns,row,cs',f',i',hp0,hp,CY,hni,p7,rfl,aeq,hii,rR,SO⟩:=aaJ L8 c;refine#[XH H cp tb D l di i',λσ' H' z=>#[l.length - i',by lia,i',Z,z],?_];refine#[_,Z,_,Z,cp,_,_,_,Z,Z,sq,kM hp0,?_];obtain⟨xs,rs,c',r,rv,c1,c2,c3,c4,c5,c6,c7⟩:=AZ Hc hp;refine#[_,Z,_,_,Z,Z,_,Z,T.iL,_,_,_,Z,Z,c1,b8 (j:=p) c2,c',_,_,_,Z,Z,c3,b8 (j:=0) rfl,r,_,Z,.inr c4,_,_,Z,Z,?_];have hN:((i:Nat):Int)+1+((rs.length:Nat):Int)=((i+1+ns.length:Nat):Int):=by rw[c5,<- CY];lia
  refine#[_,Z,_,Z,_,_,Z,Z,_,Z,_,Z,_,Z,cp,_,Z,sq,λnp Y5=>?_];have ahK:pd (vI l) (some (((i:Nat):Int)+1)) (some (((i:Nat):Int)+1+((rs.length:Nat):Int)))=vI ns:=by
   rw[Ru (i:=i+1) (n:=ns.length) (by lia) hN hni,p7]
  rw[ahK];have sn:=aT Y5 (.lst (vI ns));refine#[bK _,λr0 VA=>?_];have s0:=aT VA (.lst []);have L9:=sn.trans s0;refine#[_,Z,?_];obtain⟨xs2,rs2,QM,r2,rv2,k1,k2,k3,k4,k5,k6,k7⟩:=AZ (aX (aX Hc np (.lst (vI ns))) r0 (.lst [])) hp;refine#[_,Z,T.iL,_,_,_,Z,Z,k1,b8 (j:=p) k2,QM,_,_,_,Z,Z,k3,b8 (j:=1) rfl,_,Z,?_];rcases SO with⟨hrn,rfl,ei'⟩ | ⟨hrs,hm,ei',afo⟩
  ·rw[hrn] at k7
   subst k7;refine cH ?_;refine OU (ns:=ns) (row:=[]) (i':=i') (f':=f') (cs':=cs') (by rw[ei'];exact hN) (hT.same L9) (hS.trans L9) hO Vy hDH (L9 _ _ Vz) rR aeq SS Iw eP hp (s0 _ _ ah) CY ah (λ_=>rfl) (λz=>hT.dom r0 z (sn.free VA)) (λz=>?_) (hS.free (sn.free VA)) λσ' H' z=>z;rw[z,sn _ _ Vz] at VA;cases VA
  cases er:l9 p with
  | none=>rw[er] at hrs;cases hrs
  | some y=>
   rw[er] at k7;obtain⟨b,rfl,_⟩:=k7;refine cF ?_;have sq0:aO K (aX (aX Hc np (.lst (vI ns))) r0 (.lst [])) cp (vI l):=OT L9 sq;refine#[_,Z,_,_,Z,Z,_,Z,_,Z,cp,_,_,_,Z,Z,sq0,(by show w8 (vI l) (((i:Nat):Int)+1+((rs.length:Nat):Int))=_;rw[hN];exact kM hm),_,_,Z,Z,?_];refine#[_,Z,_,Z,_,_,Z,Z,_,Z,_,Z,_,Z,cp,_,Z,sq0,λr1 VB=>?_];have afp:pd (vI l) (some (((i:Nat):Int)+1+((rs.length:Nat):Int)+1)) (some (((i:Nat):Int)+1+((rs.length:Nat):Int)+1+((row.length:Nat):Int)))=vI row:=by
    rw[Ru (i:=i+1+ns.length+1) (n:=row.length) (by rw[hN];lia) (by rw[hN];lia) (by lia),afo]
   rw[afp];have s1':=aT VB (.lst (vI row));have sa:=L9.trans s1';refine OU (ns:=ns) (row:=row) (i':=i') (f':=f') (cs':=cs') (by rw[ei',hN];lia) (hT.same sa) (hS.trans sa) hO Vy hDH (sa _ _ Vz) rR aeq SS Iw eP hp (s1' _ _ (s0 _ _ ah)) CY ah (λz=>by rw[er] at z;cases z) (λz=>hT.dom r1 z (L9.free VB)) (λz=>?_) (hS.free (L9.free VB)) λσ' H' z=>z;rw[z,L9 _ _ Vz] at VB;cases VB
 have c:i=l.length:=by
  have:¬ (((i:Nat):Int) < ((l.length:Nat):Int)):=λz=>c (decide_eq_true z)
  lia
 subst c;rw[Be] at L8;have ecs:=EO L8;subst ecs;refine#[_,Z,q _ D ?_];rw[Vz,<- SS];show _=some (HO.lst (vI (done++[])));rw[b5]
def aes:aK aL 52 T.ju (spA K):=by
 have cy:=Wz;have gq:=Z2 cy;have gv:=Mp;have gj:=Pg cy gv;have cE:=Um gq;have cB:=NF cy gj;have iN:=Ku cy gv gj;have jV:=Ph cy gj;have lU:=Uq cB iN;have kL:=(NL cy gq cE gv cB lU 12 (aN _)).1;have rn:=NM;have jH:=Mq;have yN:=Ux cB iN;have x4:=Z3 cB cE yN rn kL;have BG:=adj;have FI:=Z4;have Ce:=adk;have DO:=WE jH BG FI Ce;have Cf:=UI jH DO;have nD:=Sk Cf;have uS:=Z5 nD jV kL;have pR:=WK nD jV cE x4;have fD:=WM;have oE:=adp;have x6:=Z7 oE;have Cg:=NS oE x6;have x8:=WN fD Cg;have DQ:=aab;have Ci:=WQ DQ x8;have AX:=WR Ci;have xF:=UM;have uP:=UN;have pN:=UO fD uP xF;have Kv:=WT;have Cj:=WV Kv pN;have pT:=aae Cj;have pP:=Mr;have D0:=Pj;have fG:=aaf;have jl:=WW;have ky:=Pk fG;have c9:=Pl;have ia:=aag fG jl ky;have gh:=aah;have zP:=WY;have AJ:=adv;have pO:=aai AJ;have AK:=adw;have yP:=W0 gh zP;have AL:=aaj pO AK;have yQ:=UX fG;have xI:=Pn gh yP pO AL yQ;have uR:=Sx zP;have jI:=UY fD uR xI;have tx:=W3;have JL:=aak;have KA:=W5 ia;have uE:=aal JL KA;have xJ:=W6 fG tx uE;have AO:=aam ky;have KC:=W7 fG ia;have F2:=U3 jI AO KC xJ;have xK:=U4;have A0:=aao jI F2 xK;have pQ:=SA;have wF:=adK pP;have wJ:=adL pQ wF;have uU:=adM c9;have yT:=aap c9;have wK:=adP;have tG:=aaq pR;have vx:=aar uS;have gL:=adQ;have mO:=Xe;have wI:=SD;have zQ:=Xg wI;have yR:=aas;have xM:=Xh mO;have yS:=aau mO zQ;have AW:=adX mO zQ;have xN:=Xj yR xM yS AW;have tE:=Xk fD xN;have xO:=Xl tE rn;have wL:=Vf xO;have pS:=Xm;have tV:=Vh pS;have tW:=Vi pS;have zE:=Vj tV tW;have sC:=aax zE;have Cp:=aay sC;have zF:=aaz gL AX;have xP:=ad0 c9 jl D0;have Cq:=Xn xP vx jI gL;have A1:=Xp pR;have A2:=Vn vx pN;have ya:=Vo;have yU:=ad2 ya;have yV:=Xq pQ;have Cs:=aaC;have lE:=Xs;have A3:=Vq c9 lE;have A4:=Vr lE gL;have Cr:=aaD jl ia pP;have yb:=Xx wJ xP tG pT A0 uU yT wK gL;have uV:=XA A1 A2 tG zF pT gL Cp wL;have wN:=XB yb Cq;have pU:=aaF Cr Cs A3 gL A4;have Ct:=XC yU yV pU wN uV;have A5:=SQ;exact aen A5 Ct
def XJ (h:PyVbrgah.answers_asked l=true) :∃cs,d7 cZ l.length l=some cs/\cs.length<=100/\(∀c∈cs,jO c=true)/\Bi l=rA (nE fU rD cs):=by
 unfold PyVbrgah.answers_asked at h;cases e:C3 l with
 | none=>rw[e] at h;cases h
 | some cs=>
  rw[e] at h;have h:(PyFlat.atMost 100 cs&&VbrgahNeutral.asked cs)=true:=h;rw[aB] at h;refine#[cs,VE e,of_decide_eq_true h.1,λc hc=>?_,?_]
  ·have h2:=h.2
   unfold VbrgahNeutral.asked at h2;rw[aB] at h2;exact fZ.mp h2.1 c hc
  unfold Bi;rw[e]
end Sw
open PySem PySem.W PyProof.Rows L2
set_option maxRecDepth 100000 in
set_option maxHeartbeats 0 in
theorem PySem.Challenge.cw_spellareas_s01_answers_holds : PySem.Challenge.rw_spellareas_s01_answers.Holds := by
 refine Sw.hd λq loose XP YP d K Yj yj hY FT=>?_;refine L2.RZ (r:=PySem.Challenge.rw_spellareas_s01_answers) (k:=52) (CX:=L2.aL) (ps:=["calls"]) (sp:=Sw.spA) Sw.hws Yj rfl #[Z,by decide,by decide] hY ?F ?S (λ_ _ _ _ z=>z)
 case F=>
  intro w mg fa h Y KX G Yk;obtain⟨T,U⟩:=FT w mg h KX G;rw[yj] at Yk;obtain rfl:fa=T.ju.f:=Value.ref.inj (bN.inj (Yk.symm.trans U.ju.m));exact#[T.ju.fd,Sw.Ul U.ju,λaS _ _=>Sw.Wy (λ_=>Sw.aes) #[_,w,_,mg,aS,T] U]
 case S=>
  intro K H xs a hO Lh Iw hx;cases hx with
  | cons h1 h2=>
   cases h2;cases h1 with
   | lst hs ha=>
    have e:=L2.P4 a.1 _ ha;subst e;have q:((Codec.inLen 0 16000 a.1&&a.1.all (Codec.inInt (-1000000000000000000) 1000000000000000000))&&true)=true:=Lh;rw[aB,aB] at q;have hl:=(Codec.inNat_iff.mp q.1.1).2;obtain⟨cs,c1,c2,c3,c4⟩:=Sw.XJ (l:=a.1) Iw;refine#[_,a.1,cs,Z,hs,by lia,c1,c2,c3,λH' p hp=>?_];show L2.Dw K H' (.ref p) (.list ((Bi a.1).map WData.int));rw[c4];exact .lst (L2.aO.of hp) (L2.P2 _)
