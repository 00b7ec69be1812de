import Derived.Test.YtkkdfgnnlpohlaaGreatDoorPkze
namespace Go.Proofs.YtkkdfgnnlpohlaaGreatDoor
set_option maxRecDepth 20000
set_option linter.unusedVariables false
set_option linter.unusedSimpArgs false
set_option maxHeartbeats 4000000
open Go.RowKit Go.Proofs.Tryz
variable {W X Y w w' w0 wr : World} {A B at_ b b2 base' c cap e f g go gs hi i j k lo m n s u val z : Nat} {E G I J K L M N O u0 u1 u2 v0 v1 v2 v3 v4 v5 v6 x y : Value} {o : Oper} {Q : Exit → Act → World → Prop} {cs tmps : Array Value} {t : TypeId} {p : Addr} {l : List Nat} {bvs xs : List Value} {a : List UInt8} {first ok : Bool}
theorem KO{x:BA}{l:List UInt8}(h:x=⟨l.toArray⟩):(x.toList==l)=true:=by rw[h,OC];simp
theorem MS{x:BA}{l:List UInt8}(h:¬x=⟨l.toArray⟩):(x.toList==l)=false:=by
 rw[OC];refine beq_eq_false_iff_ne.2 (fun e=>h ?_);cases x with
 |mk d=>rw[←e]
open Classical in
theorem xk{s:SX}{nm:BA}(z:s.kind=3)(h:nm=uxN):gZ s nm=true:=by unfold gZ;rw[OS z,ON h];rfl
open Classical in
theorem tW{s:SX}{nm:BA}{k:Nat×Nat×Nat}(A:s.kind=3)(h:¬nm=uxN)(z:eR nm.data.toList=some k):gZ s nm=decide (k.1∉s.dead):=by unfold gZ;rw[OS A,OM h,z];rfl
open Classical in
theorem tX{s:SX}{nm:BA}(A:s.kind=3)(h:¬nm=uxN)(z:eR nm.data.toList=none):gZ s nm=false:=by unfold gZ;rw[OS A,OM h,z];rfl
open Classical in
theorem ld{s:SX}{nm:BA}(A:¬s.kind=3)(h:nm=ixN∨nm=ej s.gen∨(nm=fh∧s.kind=2)):gZ s nm=true:=by
 unfold gZ;rw[OR A];rcases h with h|h|⟨h,z⟩
 ·simp[h]
 ·simp[h]
 ·simp[h,z]
open Classical in
theorem qV{s:SX}{nm:BA}(I:¬s.kind=3)(A:¬nm=ixN)(E:¬nm=ej s.gen)(G:¬(nm=fh∧s.kind=2)):gZ s nm=s.mails.any fun m=>m.moved&&decide (m.card=nm):=by
 unfold gZ;rw[OR I,OM A,OM E];by_cases z:nm=fh
 ·rw[OM (fun e=>G ⟨z,e⟩)];simp
 ·rw[OM z];simp
theorem Ds(aa:Nat)(s:SX)(v:Value)(nm:BA)(w:World)(hs:nm.size≤1048576)(hk:s.kind=3)(hd:s.dead.length≤40000)(h:RdV w aa s v):
  Calls prog 22 #[v,.string nm] w fun e w'=>e= .returned (.bool (gZ s nm))∧Below w.heap.size w w':=by
 obtain⟨Y,mn,Z,G,U,I,fs,rfl,h2,h3,h4,V⟩:=h;have HA:=a8 (nAl w (.cells #[.int .i64 s.code,.int .i64 s.kind,uI s.val,uI s.next,uI s.cur,iI s.gen,iI s.taken,.slice Y mn Z,.slice G U I] 48));have L:=a8 (dQ w #[.int .i64 s.code,.int .i64 s.kind,uI s.val,uI s.next,uI s.cur,iI s.gen,iI s.taken,.slice Y mn Z,.slice G U I] 48);have ae:U=s.dead.length:=by
  obtain⟨a',c',e'⟩:=dM.slice V;simp only[OW,O3] at e';exact e'.2.1
 subst ae;have ad:=a8 V;have K:=a8 hk;clear h2 h3 h4 V hk;go_enter func22,ntmps22;go_upto_region 1 with fail;generalize w.alloc (.cells #[.int .i64 s.code,.int .i64 s.kind,uI s.val,uI s.next,uI s.cur,iI s.gen,iI s.taken,.slice Y mn Z,.slice G s.dead.length I] 48)=w1 at HA L⊢;obtain⟨-,d1⟩:=L.c2;rw[K.out] at d1;go_wp2_with fail;refine(kV nm w1 hs).mono ?_;rintro e J ⟨ok,u,st,f,rfl,ac,O⟩;have ab:=nAl J (.cells #[.bool ok,uI u,iI st,uI f] 104);have Q:=O.trans (ab.mono O.size);have M:=dQ J #[.bool ok,uI u,iI st,uI f] 104;have A:=bTr HA Q;have H3:=a8 (L.below Q L.lt);have HC:=a8 (ly ac);clear ac O ab Q d1;go_upto_region 3 with fail;generalize J.alloc (.cells #[.bool ok,uI u,iI st,uI f] 104)=N at M A H3⊢;obtain⟨m0,m1⟩:=M.c2;obtain⟨-,-,-,-,-,-,-,-,d8⟩:=H3.c9;clear M;by_cases z:nm=uxN
 ·have hq:(nm.toList==[117,105,100,108,105,115,116])=true:=KO z;have E:=a8 (xk K z);clear z;go_wp2;go_ret;exact⟨by rw[E.out];rfl,A⟩
 ·have hq:(nm.toList==[117,105,100,108,105,115,116])=false:=MS z;cases ok with
  |false=>
   have E:=a8 (tX K z HC);clear z;go_wp2;go_ret;exact⟨by rw[E.out];rfl,A⟩
  |true=>
   have E:=a8 (tW K z HC);have CI:=a8 (AQ aa G I s.dead u N (by omega) (dM.below ad (A.out) (OV _)));clear z;go_wp2_with fail;refine CI.mono ?_;rintro e w4 ⟨rfl,rfl⟩;have R:=a8 (show(!decide (u∈s.dead))=decide (u∉s.dead) by simp);generalize decide (u∈s.dead)=bb at R⊢;cases bb with
   |true=>
    go_wp2;go_ret;exact⟨by rw[E.out,←R.out];rfl,A⟩
   |false=>
    go_wp2;go_ret;exact⟨by rw[E.out,←R.out];rfl,A⟩
theorem ub(ap:Nat)(s:SX)(v:Value)(nm:BA)(w:World)(hs:nm.size≤1048576)(N:s.kind=1∨s.kind=2)(hg:s.gen≤99999)(O:s.mails.length≤100)(h:RdV w ap s v):
  Calls prog 22 #[v,.string nm] w fun e w'=>e= .returned (.bool (gZ s nm))∧Below w.heap.size w w':=by
 obtain⟨ma,mn,mc,da,dn,dc,fs,rfl,I,U,V,h5⟩:=h;have HA:=a8 (nAl w (.cells #[.int .i64 s.code,.int .i64 s.kind,uI s.val,uI s.next,uI s.cur,iI s.gen,iI s.taken,.slice ma mn mc,.slice da dn dc] 48));have R:=a8 (dQ w #[.int .i64 s.code,.int .i64 s.kind,uI s.val,uI s.next,uI s.cur,iI s.gen,iI s.taken,.slice ma mn mc,.slice da dn dc] 48);have aw:mn=fs.length:=by
  obtain⟨a',c',e'⟩:=dM.slice U;simp only[OW,O3] at e';exact e'.2.1
 subst aw;have aC:fs.length≤100:=(by rw[←I,OW] at O;exact O);have ah:=a8 I;have ag:=a8 U;have Q:¬s.kind=3:=(by omega);have aB:=a8 Q;have HK:=a8 N;have CM:=a8 (fun(X:World)=>pi s.gen X hg);have ac:=a8 (fun h=>ld (nm:=nm) Q h);have ao:=a8 (fun h1 I U=>qV (nm:=nm) Q h1 I U);clear I U V h5 O hg N;go_enter func22,ntmps22;go_upto_region 1 with fail;generalize w.alloc (.cells #[.int .i64 s.code,.int .i64 s.kind,uI s.val,uI s.next,uI s.cur,iI s.gen,iI s.taken,.slice ma fs.length mc,.slice da dn dc] 48)=w1 at HA R⊢;obtain⟨-,d1,-,-,-,d5⟩:=R.c6;have aD:(s.kind==3)=false:=(by simpa using Q);clear Q;by_cases M:nm=ixN
 ·have A:(nm.toList==[105,110,100,101,120])=true:=KO M;have E:=a8 (ac.out (.inl M));clear M;go_wp2;go_ret;exact⟨by rw[E.out];rfl,HA⟩
 have A:(nm.toList==[105,110,100,101,120])=false:=MS M;go_wp2_with fail;refine(CM.out w1).mono ?_;rintro e w2 ⟨rfl,ae⟩;have G:=bTr HA ae;have H2:=a8 (R.below ae R.lt);have HE:=a8 M;clear ae d1 d5 M;obtain⟨-,d1,-,-,-,-,-,d7⟩:=H2.c8;by_cases L:nm=ej s.gen
 ·have af:(nm.toList==(ej s.gen).toList)=true:=iE L;have E:=a8 (ac.out (.inr (.inl L)));generalize ej s.gen=mb at af⊢;clear L;go_wp2;go_ret;exact⟨by rw[E.out];rfl,G⟩
 have af:(nm.toList==(ej s.gen).toList)=false:=iF L;have ar:=a8 L;generalize ej s.gen=mb at af⊢;clear L;by_cases J:nm=fh∧s.kind=2
 ·have an:(nm.toList==[99,117,114,115,111,114])=true:=KO J.1;have E:=a8 (ac.out (.inr (.inr J)));rw[J.2] at d1;clear J;go_wp2;go_ret;exact⟨by rw[E.out];rfl,G⟩
 have E:=a8 (ao.out HE ar J);have au:=a8 (show∀(P:Prop),((nm.toList==[99,117,114,115,111,114])=false→P)→(((nm.toList==[99,117,114,115,111,114])=true∧(s.kind==2)=false)→P)→P from fun P h1 I=>by
  by_cases V:nm=fh
  ·exact I ⟨KO V,by simpa using fun e=>J ⟨V,e⟩⟩
  ·exact h1 (MS V))
 clear J;refine au.out _ (fun an=> ?_) (fun aq=> ?_)
 all_goals
  try (obtain⟨an,aE⟩:=aq)
  go_wp2;clear d1 d7;go_loopw [7,48] (fun _ i wr=>∃j:Nat,j≤fs.length∧i=iI j∧Hid (Below w2.heap.size w2 wr)∧Hid (∀m∈fs.take j,¬(m.x.moved=true∧m.x.card=nm))) (fun _ i _=>fs.length-(intOf i).toNat)
  case atStart=>exact⟨0,O4 _,rfl,a8 (OX _ _),a8 (by simp)⟩
  case round=>
   obtain⟨j,hj,rfl,HI,aj⟩:=hrel;by_cases ab:j<fs.length
   ·have aA:(j:Int)<(fs.length:Int):=(by omega);obtain⟨g,av,_,_⟩:=ag.at0 (by rw[OW];omega);subst av;have HR:=a8 (dM.below (dM.below ag G (OV _)) HI (OV _));have z:=a8 (show∀k (N:k<11),wr.cell? ⟨g,j*11+k,none⟩=(mlF fs[j])[k]? from fun k N=>by
     have hl:((fs.map mlF)[j]'(by simpa using ab)).length=11:=(by rw[Po];rfl);rw[HR.cell j k (by simpa using ab) (by rw[hl];exact N),OZ (by show k<11;exact N)];congr 1;simp)
    have ak:=a8 (show fs.take (j+1)=fs.take j++[fs[j]] from fD fs j ab);have ai:=a8 (show fs[j].x∈s.mails by rw[←ah.out];exact List.mem_map_of_mem (O6 ab));generalize fs[j]=f at z ak ai;have k0:wr.cell? ⟨g,j*11,none⟩=some (uI f.x.uid):=z.out 0 (by omega);have k1:wr.cell? ⟨g,j*11+1,none⟩=some (iI f.x.stamp):=z.out 1 (by omega);have k2:wr.cell? ⟨g,j*11+2,none⟩=some (uI f.x.flags):=z.out 2 (by omega);have k3:wr.cell? ⟨g,j*11+3,none⟩=some (.slice f.ba f.x.body.length f.bc):=z.out 3 (by omega);have k4:wr.cell? ⟨g,j*11+4,none⟩=some (.slice f.ea f.x.entry.length f.ec):=z.out 4 (by omega);have k5:wr.cell? ⟨g,j*11+5,none⟩=some (iI f.x.stamp0):=z.out 5 (by omega);have k6:wr.cell? ⟨g,j*11+6,none⟩=some (uI f.x.flags0):=z.out 6 (by omega);have k7:wr.cell? ⟨g,j*11+7,none⟩=some (iI f.x.bare):=z.out 7 (by omega);have k8:wr.cell? ⟨g,j*11+8,none⟩=some (iI f.x.size):=z.out 8 (by omega);have k9:wr.cell? ⟨g,j*11+9,none⟩=some (.bool f.x.moved):=z.out 9 (by omega);have ay:wr.cell? ⟨g,j*11+10,none⟩=some (.string f.x.card):=z.out 10 (by omega);have HM:=a8 (dQ wr #[uI f.x.uid,iI f.x.stamp,uI f.x.flags,.slice f.ba f.x.body.length f.bc,.slice f.ea f.x.entry.length f.ec,iI f.x.stamp0,uI f.x.flags0,iI f.x.bare,iI f.x.size,.bool f.x.moved,.string f.x.card] 108);have al:=nAl wr (.cells #[uI f.x.uid,iI f.x.stamp,uI f.x.flags,.slice f.ba f.x.body.length f.bc,.slice f.ea f.x.entry.length f.ec,iI f.x.stamp0,uI f.x.flags0,iI f.x.bare,iI f.x.size,.bool f.x.moved,.string f.x.card] 108);have Z:=bTr HI al;have Y:=a8 (G.trans (Z.mono G.size));clear al z HR;go_upto_region 9 with fail;clear k0 k1 k2 k3 k4 k5 k6 k7 k8 k9 ay;generalize wr.alloc (.cells #[uI f.x.uid,iI f.x.stamp,uI f.x.flags,.slice f.ba f.x.body.length f.bc,.slice f.ea f.x.entry.length f.ec,iI f.x.stamp0,uI f.x.flags0,iI f.x.bare,iI f.x.size,.bool f.x.moved,.string f.x.card] 108)=X at HM Z Y⊢;obtain⟨-,-,-,-,-,-,-,-,-,m9,az⟩:=HM.c11;have aa:=a8 (fun(hn:¬(f.x.moved=true∧f.x.card=nm))=>show∀m∈fs.take (j+1),¬(m.x.moved=true∧m.x.card=nm) from fun q A=>by
     rw[ak.out,Pj] at A;rcases A with A|A
     ·exact aj.out q A
     ·rw[Ph.1 A];exact hn)
    have ad:=a8 (fun(hy:f.x.moved=true∧f.x.card=nm)=>show gZ s nm=true from by
     rw[E.out,List.any_eq_true];exact⟨f.x,ai,by simp[hy.1,hy.2]⟩)
    generalize f.x.card=cn at az aa ad;generalize f.x.moved=mv at m9 aa ad;cases mv with
    |false=>
     have HG:=a8 (aa.out (by simp));go_wp2;exact⟨⟨j+1,by omega,by go_num,Z,HG⟩,by simp[intOf];omega⟩
    |true=>
     by_cases K:cn=nm
     ·have ax:=iE K;have HY:=a8 (ad.out ⟨rfl,K⟩);clear K;go_wp2;go_ret;exact⟨by rw[HY.out];rfl,Y⟩
     ·have ax:=iF K;have HG:=a8 (aa.out (fun h=>K h.2));clear K;go_wp2;exact⟨⟨j+1,by omega,by go_num,Z,HG⟩,by simp[intOf];omega⟩
   ·have am:j=fs.length:=(by omega);have HY:=a8 (show gZ s nm=false from by
     rw[E.out,List.any_eq_false];intro m O;rw[←ah.out] at O;obtain⟨q,A,rfl⟩:=Pg.1 O;have:=aj.out q (by rw[am,PA];exact A);simpa using this)
    have Y:=a8 (G.trans (HI.mono G.size));clear am;go_wp2;go_ret;exact⟨by rw[HY.out];rfl,Y⟩
theorem AS(A:Nat)(s:SX)(v:Value)(nm:BA)(w:World)(G:nm.size≤1048576)(E:MX s)(I:s.mails.length≤100)(h:RdV w A s v):
  Calls prog 22 #[v,.string nm] w fun e w'=>e= .returned (.bool (gZ s nm))∧Below w.heap.size w w':=by
 rcases E.kind with z|z|z
 ·exact ub A s v nm w G (.inl z) E.gen I h
 ·exact ub A s v nm w G (.inr z) E.gen I h
 ·exact Ds A s v nm w G z E.dead h
theorem fU.nil(w:World)(z:Nat):fU w z (sN) [] []:=⟨rfl,⟨rfl,.inl ⟨rfl,rfl⟩⟩,fun i hi=>OH hi (Nat.not_lt_zero _)⟩
theorem fU.keptT{v m:Value}{I:List V4}{os:List OpV}{xs:List BA}(h:fU w z v I os)(G:fB w b2 m xs)(E:w.grownBy w' m.ownBlock):fU w' z v I os:=
 ⟨h.len,OE h.row E (mD h.row G (by decide)),fun i hi=>by
  obtain⟨x,J,A⟩:=h.body i hi;exact⟨x,J,OE A E (mD A G (by decide))⟩⟩
theorem fB.keptV{v m:Value}{G:List V4}{os:List OpV}{xs:List BA}(h:fB w b2 m xs)(E:fU w z v G os)(A:w.grownBy w' v.ownBlock):fB w' b2 m xs:=OE h A (mD h E.row (by decide))
theorem fB.slice{v:Value}{xs:List BA}(h:fB w z v xs):∃a cap,v= .slice a xs.length cap:=by
 rcases h.at with⟨rfl,rfl⟩|⟨g,cap,rfl,_⟩
 ·exact⟨none,0,rfl⟩
 ·exact⟨_,cap,rfl⟩
theorem io{v:Value}{G:List V4}{os:List OpV}(h:Below B w0 X)(E:fU X B v G os)(A:X.grownBy w' v.ownBlock)(z:B≤X.heap.size):Below B w0 w':=h.grown A z (fun k e=>(pm E.row e).1)
theorem mM{v:Value}{xs:List BA}(h:Below B w0 X)(E:fB X B v xs)(A:X.grownBy w' v.ownBlock)(z:B≤X.heap.size):Below B w0 w':=h.grown A z (fun k e=>(OF E k e).1)
theorem lV{D:dO}(h:(eu D).code=0):eM D:=by
 unfold eu at h;split at h
 ·assumption
 ·cases h
theorem pj(g:Nat)(z:g≤99999):(ej g).size≤100:=by
 have A:(ej g).size=5+(Lib.decDigits g).length:=(by unfold ej ByteArray.size;simp;omega);have E:=wK g z;omega
theorem Ge{k:Int}{nm:BA}(h:nm∈pT k):nm.size≤100:=by
 unfold pT at h;split at h
 ·rw[Ph.1 h];decide
 ·split at h
  ·simp only[Pd,Pw,or_false] at h;rcases h with rfl|rfl<;>decide
  ·rw[Ph.1 h];decide
theorem AW(k:Int):0<(pT k).length∧(pT k).length≤2:=by
 unfold pT;split
 ·decide
 ·split<;>decide
theorem vn{f:FT}(h:f.2.2<f.2.1.length):eK f=gG f.1 (f.2.1.take f.2.2)∧fH f=[f.1++iZ]:=⟨OS h,OS h⟩
theorem qp{f:FT}(h:¬f.2.2<f.2.1.length):eK f=[]∧fH f=[]:=⟨OR h,OR h⟩
theorem lw(nm:BA)(d:LN):(gG nm d).length=5:=rfl
theorem ko(f:FT):(eK f).length≤5:=by unfold eK;split<;>simp[lw]
theorem nb(f:FT):(fH f).length≤1:=by unfold fH;split<;>simp
theorem lO{α β:Type}(f:α→List β)(n:Nat)(h:∀x,(f x).length≤n):∀(l:List α),(l.flatMap f).length≤l.length*n
 |[]=>by simp
 |x::r=>by
  have z:=lO f n h r;have A:=h x;rw[List.flatMap_cons,O1,Pf,Nat.succ_mul];omega
theorem kY{α β:Type}(f:α→List β)(l:List α)(x:α):(l++[x]).flatMap f=l.flatMap f++f x:=by rw[PX,List.flatMap_cons,List.flatMap_nil,Pm]
def ApV(vs:List V4)(os:List OpV):Prop:=(vs.zip os).Pairwise fun a b=>a.2.2.2.2≠[]→b.2.2.2.2≠[]→a.1.2.2.2.ownBlock≠b.1.2.2.2.ownBlock
theorem ApV.one{z:List V4}{os:List OpV}(E:z.length=os.length)(h:os.Pairwise fun a b=>a.2.2.2=[]∨b.2.2.2=[]):ApV z os:=by
 have A:((z.zip os).map Prod.snd).Pairwise fun a b=>a.2.2.2=[]∨b.2.2.2=[]:=(by rw[List.map_snd_zip (by omega)];exact h);rw[List.pairwise_map] at A;exact A.imp (fun h a b=>by rcases h with h|h;exact OH h a;exact OH h b)
theorem oW{v:Value}{l:LN}(h:dR w z v l)(G:l≠[]):∃g,v.ownBlock=some g∧z≤g∧g<w.heap.size:=by
 rcases h.2 with⟨_,I⟩|⟨g,cap,J,rfl,A,E,_⟩
 ·exact OH (Pp.1 I) G
 ·exact⟨g,rfl,A,OT E⟩
theorem fU.mem{v:Value}{E:List V4}{os:List OpV}(h:fU w z v E os){a:V4×OpV}(I:a∈E.zip os):dR w z a.1.2.2.2 a.2.2.2.2:=by
 obtain⟨i,hi,rfl⟩:=PT.1 I;rw[List.length_zip] at hi;rw[List.getElem_zip];obtain⟨x,A,G⟩:=h.body i (by omega);rw[OZ (by omega),OY] at A;rw[A];exact G
theorem ApV.append{v:Value}{z xs:List V4}{os l:List OpV}(I:ApV z os)(J:ApV xs l)(A:fU w B v z os)(M:fU w' w.heap.size x xs l):ApV (z++xs) (os++l):=by
 unfold ApV at*;rw[List.zip_append A.len,PS];refine⟨I,J,fun a K b L N O=> ?_⟩;obtain⟨g,E,_,Q⟩:=oW (A.mem K) N;obtain⟨g',G,R,_⟩:=oW (M.mem L) O;rw[E,G];intro e;have:g=g':=(by simpa using e);omega
theorem KM(nm:BA)(d:LN){z:List V4}(h:z.length=(gG nm d).length):ApV z (gG nm d):=ApV.one h (by simp[gG,kz])
theorem KN{z:List V4}{os:List OpV}(h:z.length=os.length)(E:∀o∈os,o.2.2.2=[]):ApV z os:=ApV.one h (List.pairwise_of_forall_mem_list (fun a A b _=> .inl (E a A)))
theorem BC(nm z:BA)(w:World):Calls prog 95 #[.string nm,.string z] w (lJ w [(4,nm,z,[]),iz]):=by
 have E:=a8 (lg w w.heap.size [(4,nm,z,[]),iz] (OV _) (by simp) (by simp));have A:=a8 (nAl w (.cells (gD [(.int .i64 4,.string nm,.string z,sN),(.int .i64 6,.string fK,.string fK,sN)]).toArray 66));go_enter func95,ntmps95;go_wp2;go_ret;exact⟨_,_,rfl,E,A⟩
theorem yW(nm:BA)(a:OA)(c:Nat)(d:LN)(w:World)(hs:nm.size≤1048576)(hd:d.length≤1048576)(R:dW w a d):
  Calls prog 60 #[.string nm,.slice a d.length c] w (lJ w (gG nm d)):=by
 have L:=a8 (Je (nm++iZ) a c d w hd R);clear R;go_enter func60,ntmps60;go_wp2_with fail;refine L.mono ?_;rintro e w1 ⟨v,vs,rfl,G,Q⟩;obtain⟨a1,c1,U⟩:=G.slice;rw[show(kz (nm++iZ) d).length=3 from rfl] at U;subst U;have M:=a8 G;have E:=a8 Q;clear G Q L;go_wp2_with fail;refine(BC (nm++iZ) nm w1).mono ?_;rintro e w2 ⟨x,xs,rfl,I,A⟩;obtain⟨a2,c2,K⟩:=I.slice;rw[show[((4:Int),nm++iZ,nm,([]:LN)),iz].length=2 from rfl] at K;subst K;have N:=a8 (M.below' A);have Z:=a8 (I.mono E.size);have z:=bTr E A;clear A M E I;go_wp2_with (at_builtin;(refine eL _ rfl (.tmp 8) (.tmp 12) rfl w.heap.size (.slice a1 3 c1) vs (kz (nm++iZ) d) rfl ?_ (.slice a2 2 c2) xs [(4,nm++iZ,nm,[]),iz] rfl ?_ ?_ ?_ ?_ ?_;(exact N.out);(exact Z.out);(exact Nat.succ_pos 1);(simp[kz]);(exact z.size);intro v5 w5 O J;have Y:=a8 O;have V:=a8 (io z N J z.size);clear O J))
 go_ret;exact⟨v5,_,rfl,Y,V⟩
theorem Kt(nm:BA)(a:OA)(n c g:Nat)(w:World):Calls prog 59 #[.agg #[.string nm,.slice a n c,.int .i64 (g:Int)]] w fun e w'=>e= .returned (.bool (decide (g<n)))∧Below w.heap.size w w':=by
 have z:=a8 (nAl w (.cells #[.string nm,.slice a n c,iI g] 127));have A:=a8 (dQ w #[.string nm,.slice a n c,iI g] 127);go_enter func59,ntmps59;go_upto_region 1 with fail;generalize w.alloc (.cells #[.string nm,.slice a n c,iI g] 127)=w0 at z A⊢;obtain⟨-,G,z2⟩:=A.c3;by_cases h:g<n
 ·have hi:(g:Int)<(n:Int):=(by omega);have E:=a8 (ON h);clear h;go_wp2;go_ret;exact⟨by rw[E.out];rfl,z⟩
 ·have hi:¬(g:Int)<(n:Int):=(by omega);have E:=a8 (OM h);clear h;go_wp2;go_ret;exact⟨by rw[E.out];rfl,z⟩
theorem BB(ab:Nat)(a:OA)(c:Nat)(ns:List BA)(w:World)(hl:ns.length≤1000)(ho:fB w ab (.slice a ns.length c) ns):
  Calls prog 61 #[.slice a ns.length c] w (lJ w (ns.map f8++[iz])):=by
 have HN:=a8 ho;clear ho;go_enter func61,ntmps61;go_wp2;go_loopw [3,5,8] (fun o _ i wr=>∃j:Nat,j≤ns.length∧i=iI j∧Hid (∃vs,fU wr w.heap.size o vs ((ns.take j).map f8))∧Hid (Below w.heap.size w wr)) (fun _ _ i _=>ns.length-(intOf i).toNat)
 case atStart=>exact⟨0,O4 _,rfl,a8 ⟨[],fU.nil _ _⟩,a8 (OX _ _)⟩
 case round=>
  obtain⟨j,hj,rfl,HO,E⟩:=hrel;obtain⟨aa,Z⟩:=HO.out;have G:=a8 Z;have M:=a8 (show((ns.take j).map f8).length≤1000 by rw[OW,Pa];omega);clear Z HO;by_cases N:j<ns.length
  ·have af:(j:Int)<(ns.length:Int):=(by omega);obtain⟨Y,ad,kn⟩:∃Y,a=some ⟨Y,0,none⟩∧wr.cell? ⟨Y,j,none⟩=some (.string ns[j]):=by
    rcases (eZ HN.out E.out).at with⟨_,e⟩|⟨g,cap,e,_,_,_,ac⟩
    ·rw[e] at N;exact OH N (Nat.not_lt_zero _)
    ·simp only[O3] at e;have:=ac j ns[j] (OZ N);rw[Ps] at this;exact⟨g,e.1,this⟩
   subst ad;have R:=a8 (show(ns.take (j+1)).map f8=(ns.take j).map f8++[f8 ns[j]] by rw[fD ns j N,O7];rfl);generalize hL:(ns.take j).map f8=L at G M R;clear hL;generalize ns[j]=nm at kn R;have A:=nAl wr (.cells (gD [(.int .i64 5,.string nm,.string fK,sN)]).toArray 66);have V:=a8 (lg wr w.heap.size [f8 nm] E.size (by simp) (by simp[f8]));have I:=a8 (G.below' A);have z:=bTr E A;have Q:=a8 (show L.length+[f8 nm].length≤1048576 by rw[List.length_singleton];have:=M.out;omega);clear A G E;go_wp2_with (at_builtin;(refine eL _ rfl (.tmp 12) (.tmp 15) rfl w.heap.size u3 aa L rfl ?_ (sS wr.heap.size 1 1) (ru [f8 nm]) [f8 nm] rfl ?_ ?_ ?_ ?_ ?_;(exact I.out);(exact V.out);(exact Nat.succ_pos 0);(exact Q.out);(exact z.size);intro v7 w7 K J;have U:=a8 K;have O:=a8 (io z I J z.size);clear K J))
   go_roundw
   case rel=>exact⟨j+1,by omega,by go_num,by rw[R.out];exact a8 ⟨_,U⟩,O⟩
   case measure=>simp[intOf];omega
  ·have ae:j=ns.length:=(by omega);subst ae;rw[PA] at G M;have ag:¬((ns.length:Int)<(ns.length:Int)):=(by omega);have A:=nAl wr (.cells (gD [(.int .i64 6,.string fK,.string fK,sN)]).toArray 66);have V:=a8 (lg wr w.heap.size [iz] E.size (by simp) (by simp));have I:=a8 (G.below' A);have z:=bTr E A;have Q:=a8 (show(ns.map f8).length+[iz].length≤1048576 by rw[List.length_singleton];have:=M.out;omega);clear A G E;go_wp2_with (at_builtin;(refine eL _ rfl (.tmp 18) (.tmp 20) rfl w.heap.size u3 aa (ns.map f8) rfl ?_ (sS wr.heap.size 1 1) (ru [iz]) [iz] rfl ?_ ?_ ?_ ?_ ?_;(exact I.out);(exact V.out);(exact Nat.succ_pos 0);(exact Q.out);(exact z.size);intro v7 w7 K J;have U:=a8 K;have O:=a8 (io z I J z.size);clear K J))
   go_ret;exact⟨v7,_,rfl,U,O⟩
theorem uP(a b:Value)(w:World):(Instr.field 54 (.agg #[a,b]) 1).run prog w= .ok b w:=by kernel_rfl
theorem D7(a b:Value)(w:World):(Instr.field 58 (.agg #[a,b]) 1).run prog w= .ok b w:=by kernel_rfl
open Classical in
theorem uY{z:List BA}{s:SX}{ns:List BA}{nm:BA}:(ns++[nm]).filter (iu z s)=ns.filter (iu z s)++(if iu z s nm=true then[nm] else[]):=by
 rw[List.filter_append];congr 1;by_cases h:iu z s nm=true
 ·rw[OS h];simp[h]
 ·rw[OR h];simp[h]
def NH(v:Value)(F:List BA):Prop:=∃b:Bool,v= .bool b∧(b=true↔0<F.length)
noncomputable def sG(D:dO)(MT:List BA)(S:SX)(j:Nat):List BA:=((D.names.take j).map (·.1)).filter (iu MT S)
def MnI(W:World)(LT:List OpV)(MT:List BA)(mz:Value)(F:List BA)(o sm:Value)(wr:World):Prop:=NH sm F∧(∃vs,fU wr W.heap.size o vs (LT++F.map f8))∧fB wr W.heap.size mz MT∧Below W.heap.size W wr
open Classical in
theorem Kh{z:List BA}{s:SX}{nm:BA}(h:nm∈z):iu z s nm=false:=by unfold iu;rw[ON h];rfl
open Classical in
theorem G6{z:List BA}{s:SX}{nm:BA}(h:nm∉z):iu z s nm= !gZ s nm:=by unfold iu;rw[OM h];rfl
theorem zi(v:Value)(D:dO)(w:World)(hM:l6 D)(hd:kJ w v D):
  Calls prog 5 #[v] w (lJ w (iT D)):=by
 have HD:=a8 hd;obtain⟨a1,c1,a2,c2,a3,c3,a4,c4,cw,r1,r2,r3,r4⟩:=hd;subst cw;have hA:=nAl w (.cells #[.slice a1 D.nodes.length c1,.slice a2 D.names.length c2,.slice a3 D.kept.length c3,.slice a4 D.pend.length c4,.int .i64 D.quota] 34);have H1:=a8 (dQ w #[.slice a1 D.nodes.length c1,.slice a2 D.names.length c2,.slice a3 D.kept.length c3,.slice a4 D.pend.length c4,.int .i64 D.quota] 34);have CR:=a8 (Du _ D _ hM (HD.below hA));have bO:=a8 (Bz D).1;have bu:=a8 (fun h=>JQ (D:=D) h);have bz:=a8 (fun h=>lV (D:=D) h);have bj:=a8 (show iT D=if(eu D).code=0 then(gY D (eu D)).flatMap eK++iX ((D.names.map (·.1)).filter (iu ((gY D (eu D)).flatMap fH) (eu D))) else[] from rfl);have HA:=a8 hA;have cj:=a8 r2;clear r1 r2 r3 r4 hM hA;generalize eu D=S at CR bO bu bz bj;go_enter func5,ntmps5;go_wp2_with fail;generalize w.alloc (.cells #[.slice a1 D.nodes.length c1,.slice a2 D.names.length c2,.slice a3 D.kept.length c3,.slice a4 D.pend.length c4,.int .i64 D.quota] 34)=w0 at HA H1 CR⊢;refine CR.mono ?_;rintro e A ⟨rv,rfl,bW,bC⟩;have bM:=a8 bW;obtain⟨ma,mn,mc,da,dn,dc,fs,cu,-,-,-,-⟩:=bW;subst cu;have bD:=nAl A (.cells #[.int .i64 S.code,.int .i64 S.kind,uI S.val,uI S.next,uI S.cur,iI S.gen,iI S.taken,.slice ma mn mc,.slice da dn dc] 48);have HS:=a8 (dQ A #[.int .i64 S.code,.int .i64 S.kind,uI S.val,uI S.next,uI S.cur,iI S.gen,iI S.taken,.slice ma mn mc,.slice da dn dc] 48);have Q:=bC.trans (bD.mono bC.size);have H2:=a8 (H1.below Q H1.lt);have HB:=bTr HA Q;have bk:=a8 (bM.below bD);clear HA CR bD bC Q H1 bM;go_upto_region 2 with fail;generalize A.alloc (.cells #[.int .i64 S.code,.int .i64 S.kind,uI S.val,uI S.next,uI S.cur,iI S.gen,iI S.taken,.slice ma mn mc,.slice da dn dc] 48)=W0 at HS H2 HB bk⊢;have s0:W0.cell? ⟨A.heap.size,0,none⟩=some (.int .i64 S.code):=HS.cell 0;by_cases hc:S.code=0
 case neg=>
  have cG:(S.code==0)=false:=(by simpa using hc);have HV:=a8 (show iT D=[] by rw[bj.out];exact OR hc);clear hc;go_wp2;go_ret;exact⟨_,[],rfl,by rw[HV.out];exact fU.nil _ _,HB⟩
 have aW:=a8 (bz.out hc);have bh:=a8 (bu.out hc);have aN:=a8 (bj.trans (OS hc));have bN:=a8 (fun(nm:BA)=>gU aW nm);have ce:=a8 (fX aW.2.2.2.2.1).2.2.1;have ch:=a8 (lf aW.2.2.2.2.1);have CL:=a8 (Dt _ S _ W0 bh.kind bk);rw[hc] at s0 CL;obtain⟨-,s1,s2,s3,s4,s5,s6,s7,s8⟩:=HS.c9;have cE:=a8 hc;clear hc bz bu bj;go_wp2_with fail;refine CL.mono ?_;rintro e W ⟨u,rfl,bG,aZ⟩;obtain⟨ul,cl,hu⟩:=bG.slice;subst hu;have E:=bTr HB aZ;have aI:=a8 (HS.below aZ HS.lt);have aE:=a8 (H2.below aZ H2.lt);have ck:=a8 (bk.below aZ);have HU:=a8 bG;have bg:=a8 (show gY D S=(pT S.kind).map (jP D)++(if S.kind=3 then[] else[sh D S]) from rfl);have br:=a8 (AW S.kind);have bt:=a8 (fun(nm:BA) (h:nm∈pT S.kind)=>Ge h);have ca:(pT S.kind).length≤2:=br.2;clear bG aZ CL HS H2 HB bk s0 s1 s2 s3 s4 s5 s6 s7 s8;generalize pT S.kind=ns at HU bg br bt ca⊢;go_wp2;go_loopw [4,5,7,8,9,26] (fun o md _ _ _ i wr=>∃j:Nat,j≤ns.length∧i=iI j∧Hid (∃vs,fU wr W.heap.size o vs (((ns.take j).map (jP D)).flatMap eK))∧Hid (fB wr W.heap.size md (((ns.take j).map (jP D)).flatMap fH))∧Hid (Below W.heap.size W wr)) (fun _ _ _ _ _ i _=>ns.length-(intOf i).toNat)
 case atStart=>exact⟨0,O4 _,rfl,a8 ⟨[],fU.nil _ _⟩,a8 (fB.nil _ _),a8 (OX _ _)⟩
 case round=>
  obtain⟨j,hj,rfl,HO,HT,HI⟩:=hrel;obtain⟨bH,bS⟩:=HO.out;have ag:=a8 bS;clear bS HO;by_cases ai:j<ns.length
  ·have cb:(j:Int)<(ns.length:Int):=(by omega);obtain⟨gl,cp,kn⟩:∃gl,ul=some ⟨gl,0,none⟩∧wr.cell? ⟨gl,j,none⟩=some (.string ns[j]):=by
    rcases (eZ HU.out HI.out).at with⟨_,e⟩|⟨g,cap,e,_,_,_,aK⟩
    ·rw[e] at ai;exact OH ai (Nat.not_lt_zero _)
    ·simp only[O3] at e;have:=aK j ns[j] (OZ ai);rw[Ps] at this;exact⟨g,e.1,this⟩
   subst cp;have ao:=a8 (show(ns.take (j+1)).map (jP D)=(ns.take j).map (jP D)++[jP D ns[j]] by rw[fD ns j ai,O7];rfl);have bb:ns[j].size≤100:=bt.out _ (O6 ai);have aH:=a8 (show(((ns.take j).map (jP D)).flatMap eK).length≤10 from by
    have h1:=lO eK 5 ko ((ns.take j).map (jP D));rw[OW,Pa] at h1;omega)
   have aG:=a8 (show(((ns.take j).map (jP D)).flatMap fH).length≤2 from by
    have h1:=lO fH 1 nb ((ns.take j).map (jP D));rw[OW,Pa] at h1;omega)
   generalize hL:((ns.take j).map (jP D)).flatMap eK=L at ag aH;generalize hM:((ns.take j).map (jP D)).flatMap fH=M at HT aG;have bJ:=a8 hL;have bK:=a8 hM;clear hL hM;generalize ns[j]=nm at kn ao bb;have ak:=a8 (E.trans (HI.mono E.size));have ac:=a8 (aE.below HI aE.lt);obtain⟨d0,d1,d2,d3,d4⟩:=ac.c5;have CF:=a8 (jq w _ D nm wr aW HD ak);go_wp2_with fail;refine CF.mono ?_;rintro e w2 ⟨fa,fc,rfl,be,Q⟩;have HX:=a8 be;have av:=bTr HI Q;have aU:=a8 (ag.below' Q);have aP:=a8 (eZ HT Q);have ax:=a8 (show jP D nm=(nm,(b9 D nm).2,(dP (b9 D nm).2).2) from rfl);have au:=bN.out nm;clear be Q CF d0 d1 d2 d3 d4 kn ag HT;generalize jP D nm=lt at ao ax;generalize b9 D nm=rd at HX ax au⊢;obtain⟨fb,I⟩:=rd;simp only at HX ax au;have CU:=a8 (nX (HX.below (E.trans (av.mono E.size))));have bE:=uP;have cH:=D7;go_wp2_with fail;refine CU.mono ?_;rintro e w3 ⟨ua,uc,cK,rfl,-,ah⟩;have U:=bTr av ah;have ap:=a8 (aU.below' ah);have an:=a8 (eZ aP ah);clear ah CU aU aP av;generalize (dP I).1=cD;generalize (dP I).2=K at ax⊢;by_cases ht:K<I.length
   ·have bd:(K:Int)<(I.length:Int):=(by omega);have bY:=fun(W:World)=>qg (W:=W) HX (Nat.le_of_lt ht);have aT:=a8 (vn (f:=lt) (by rw[ax.out];exact ht));have CA:=a8 (tZ nm fa fc (I.take K) w3 (by omega) (by rw[Pa];omega) (((HX.take K).row).below (E.trans (U.mono E.size))));rw[Pa,Nat.min_eq_left (Nat.le_of_lt ht)] at CA;clear ht;go_wp2_with fail;refine CA.mono ?_;rintro e w4 ⟨xv,xs,rfl,aC,O⟩;obtain⟨xa,xc,bf⟩:=aC.slice;rw[lw] at bf;subst bf;have V:=bTr U O;have Z:=a8 (ap.below' O);have af:=a8 (eZ an O);have aX:=a8 (aC.mono U.size);have aw:=a8 (show L.length+(gG nm (I.take K)).length≤1048576 by rw[lw];have:=aH.out;omega);clear aC O CA ap an U;go_upto_region 13 with(at_builtin;(refine eL _ rfl (.tmp 41) (.tmp 46) rfl W.heap.size u4 bH L rfl ?_ (.slice xa 5 xc) xs (gG nm (I.take K)) rfl ?_ ?_ ?_ ?_ ?_;(exact Z.out);(exact aX.out);(exact Nat.succ_pos 4);(exact aw.out);(exact V.size);intro v5 G h5 aA;have aV:=a8 h5;have Y:=a8 (io V Z aA V.size);have aQ:=a8 (af.keptV Z aA);clear h5 aA))
    have bi:=a8 (uA G (nm++iZ));have J:=a8 (Y.alloc Y.size (.cells #[.string (nm++iZ)] 9));have ae:=a8 (show fB (G.alloc (.cells #[.string (nm++iZ)] 9)) W.heap.size u5 M from World.ownsRow.alloc aQ _);have ab:=a8 (aV.below' (nAl G (.cells #[.string (nm++iZ)] 9)));have aR:=a8 (show((ns.take (j+1)).map (jP D)).flatMap eK=L++gG nm (I.take K)∧((ns.take (j+1)).map (jP D)).flatMap fH=M++[nm++iZ] from by
     rw[ao.out,kY,kY,aT.1,aT.2,bJ.out,bK.out,ax.out];exact⟨rfl,rfl⟩)
    clear Z af aX V aV aQ Y;go_wp2_with (first
     |(at_builtin;refine gd _ rfl (.tmp 48) (.tmp 51) rfl W.heap.size u5 M (nm++iZ) G.heap.size 1 rfl rfl ?_ ?_ ?_ ?_ ?_;(exact ae.out);(exact bi.out);(have:=aG.out;omega);(exact J.size);intro v7 w7 h7 R;have aJ:=a8 h7;have aj:=a8 (mM J ae R J.size);have aq:=a8 (ab.keptT ae R);clear h7 R)
     |go_in)
    go_roundw
    case rel=>exact⟨j+1,by omega,by go_num,by rw[aR.1];exact a8 ⟨_,aq⟩,by rw[aR.2];exact a8 aJ,aj⟩
    case measure=>simp[intOf];omega
   ·have bd:¬(K:Int)<(I.length:Int):=(by omega);have aS:=a8 (qp (f:=lt) (by rw[ax.out];exact ht));clear ht;have aR:=a8 (show((ns.take (j+1)).map (jP D)).flatMap eK=L∧((ns.take (j+1)).map (jP D)).flatMap fH=M from by
     rw[ao.out,kY,kY,aS.1,aS.2,Pm,Pm,bJ.out,bK.out];exact⟨rfl,rfl⟩)
    go_wp2;go_roundw
    case rel=>exact⟨j+1,by omega,by go_num,by rw[aR.1];exact a8 ⟨_,ap⟩,by rw[aR.2];exact a8 an,U⟩
    case measure=>simp[intOf];omega
  ·have bF:j=ns.length:=(by omega);subst bF;rw[PA] at ag HT;have cJ:¬((ns.length:Int)<(ns.length:Int)):=(by omega);have bw:=a8 (aI.below HI aI.lt);have ac:=a8 (aE.below HI aE.lt);have ak:=a8 (E.trans (HI.mono E.size));have am:=a8 (show(gY D S).flatMap eK=(ns.map (jP D)).flatMap eK++(if S.kind=3 then[] else eK (sh D S)) from by
    rw[bg.out,PX];split<;>simp)
   have al:=a8 (show(gY D S).flatMap fH=(ns.map (jP D)).flatMap fH++(if S.kind=3 then[] else fH (sh D S)) from by
    rw[bg.out,PX];split<;>simp)
   have aH:=a8 (show((ns.map (jP D)).flatMap eK).length≤10 from by
    have h1:=lO eK 5 ko (ns.map (jP D));rw[OW] at h1;omega)
   have aG:=a8 (show((ns.map (jP D)).flatMap fH).length≤2 from by
    have h1:=lO fH 1 nb (ns.map (jP D));rw[OW] at h1;omega)
   have bB:=a8 (show((gY D S).flatMap eK).length≤15 from by
    rw[am.out,O1];have h1:=aH.out;have h2:=ko (sh D S);split<;>(try rw[PM])<;>omega)
   have bP:=a8 (show((gY D S).flatMap fH).length≤3 from by
    rw[al.out,O1];have h1:=aG.out;have h2:=nb (sh D S);split<;>(try rw[PM])<;>omega)
   obtain⟨-,s1,-,-,-,s5⟩:=bw.c6;generalize (gY D S).flatMap eK=LT at aN am bB;generalize (gY D S).flatMap fH=z at aN al bP;generalize (ns.map (jP D)).flatMap eK=L at ag aH am;generalize (ns.map (jP D)).flatMap fH=M at HT aG al;clear bg bw bt br HU;by_cases aB:S.kind=3
   case' pos=>
    have bp:=a8 (show∃vs,fU wr W.heap.size u4 vs LT from⟨bH,by rw[am.out,OS aB,Pm];exact ag.out⟩);have bo:=a8 (show fB wr W.heap.size u5 z by rw[al.out,OS aB,Pm];exact HT.out);have bn:=HI;rw[aB] at s1;clear aB ag HT HI ak ac;go_upto_region 21 with fail;clear s1 s5;obtain⟨WZ,aY⟩:∃x,x=wr:=⟨_,rfl⟩
    subst aY;obtain⟨ov,bc⟩:∃x,x=u4:=⟨_,rfl⟩
    subst bc;obtain⟨mz,ba⟩:∃x,x=u5:=⟨_,rfl⟩
    subst ba
   case' neg=>
    have bV:(S.kind==3)=false:=(by simpa using aB);rw[OR aB] at am al;have N:=a8 (show sh D S=(ej S.gen,(b9 D (ej S.gen)).2,S.taken) from rfl);have bb:=pj S.gen bh.gen;have au:=bN.out (ej S.gen);have CM:=a8 (pi S.gen wr bh.gen);have CF:=a8 (fun(X:World) (hX:Below w.heap.size w X)=>jq w _ D (ej S.gen) X aW HD hX);clear aB;generalize sh D S=lt at am al N;generalize ej S.gen=nm at N CM CF bb au;go_wp2_with fail;refine CM.mono ?_;rintro e w2 ⟨rfl,Q⟩;have av:=bTr HI Q;have aU:=a8 (ag.below' Q);have aP:=a8 (eZ HT Q);have aD:=a8 (ac.below Q ac.lt);clear Q CM s1 s5 ag HT HI ak ac;obtain⟨d0,d1,d2,d3,d4⟩:=aD.c5;go_wp2_with fail;refine(CF.out w2 (E.trans (av.mono E.size))).mono ?_;rintro e w3 ⟨fa,fc,rfl,be,ah⟩;have HX:=a8 be;have U:=bTr av ah;have ap:=a8 (aU.below' ah);have an:=a8 (eZ aP ah);clear be ah CF d0 d1 d2 d3 d4 aU aP av aD;generalize b9 D nm=rd at HX N au⊢;obtain⟨fb,I⟩:=rd;simp only at HX N au;have s6:w3.cell? ⟨A.heap.size,6,none⟩=some (iI S.taken):=(aI.below U aI.lt).cell 6;generalize S.taken=K at s6 N;have bE:=uP;by_cases ht:K<I.length
    case' pos=>
     have bd:(K:Int)<(I.length:Int):=(by omega);have bY:=fun(W:World)=>qg (W:=W) HX (Nat.le_of_lt ht);have aT:=a8 (vn (f:=lt) (by rw[N.out];exact ht));have CA:=a8 (tZ nm fa fc (I.take K) w3 (by omega) (by rw[Pa];omega) (((HX.take K).row).below (E.trans (U.mono E.size))));rw[Pa,Nat.min_eq_left (Nat.le_of_lt ht)] at CA;clear ht;go_wp2_with fail;refine CA.mono ?_;rintro e w4 ⟨xv,xs,rfl,aC,O⟩;obtain⟨xa,xc,bf⟩:=aC.slice;rw[lw] at bf;subst bf;have V:=bTr U O;have Z:=a8 (ap.below' O);have af:=a8 (eZ an O);have aX:=a8 (aC.mono U.size);have aw:=a8 (show L.length+(gG nm (I.take K)).length≤1048576 by rw[lw];have:=aH.out;omega);clear aC O CA ap an U s6;go_upto_region 20 with(at_builtin;(refine eL _ rfl (.tmp 69) (.tmp 75) rfl W.heap.size u4 bH L rfl ?_ (.slice xa 5 xc) xs (gG nm (I.take K)) rfl ?_ ?_ ?_ ?_ ?_;(exact Z.out);(exact aX.out);(exact Nat.succ_pos 4);(exact aw.out);(exact V.size);intro v5 G h5 aA;have aV:=a8 h5;have Y:=a8 (io V Z aA V.size);have aQ:=a8 (af.keptV Z aA);clear h5 aA))
     have bi:=a8 (uA G (nm++iZ));have J:=a8 (Y.alloc Y.size (.cells #[.string (nm++iZ)] 9));have ae:=a8 (show fB (G.alloc (.cells #[.string (nm++iZ)] 9)) W.heap.size u5 M from World.ownsRow.alloc aQ _);have ab:=a8 (aV.below' (nAl G (.cells #[.string (nm++iZ)] 9)));clear Z af aX V aV aQ Y;go_upto_region 21 with(first
      |(at_builtin;refine gd _ rfl (.tmp 77) (.tmp 80) rfl W.heap.size u5 M (nm++iZ) G.heap.size 1 rfl rfl ?_ ?_ ?_ ?_ ?_;(exact ae.out);(exact bi.out);(have:=aG.out;omega);(exact J.size);intro v7 w7 h7 R;have aJ:=a8 h7;have aj:=a8 (mM J ae R J.size);have aq:=a8 (ab.keptT ae R);clear h7 R)
      |go_in)
     have bp:=a8 (show∃vs,fU w7 W.heap.size v5 vs LT from⟨_,by rw[am.out,aT.1,N.out];exact aq.out⟩);have bo:=a8 (show fB w7 W.heap.size v7 z by rw[al.out,aT.2,N.out];exact aJ.out);have bn:=aj;clear aq aJ aj ab ae J bi bd bY bV bE au bb;obtain⟨WZ,aY⟩:∃x,x=w7:=⟨_,rfl⟩
     subst aY;obtain⟨ov,bc⟩:∃x,x=v5:=⟨_,rfl⟩
     subst bc;obtain⟨mz,ba⟩:∃x,x=v7:=⟨_,rfl⟩
     subst ba
    case' neg=>
     have bd:¬(K:Int)<(I.length:Int):=(by omega);have aS:=a8 (qp (f:=lt) (by rw[N.out];exact ht));have bp:=a8 (show∃vs,fU w3 W.heap.size u4 vs LT from⟨_,by rw[am.out,aS.1,Pm];exact ap.out⟩);have bo:=a8 (show fB w3 W.heap.size u5 z by rw[al.out,aS.2,Pm];exact an.out);have bn:=U;clear ap an U;go_upto_region 21 with fail;clear s6 ht bd bV bE au bb;obtain⟨WZ,aY⟩:∃x,x=w3:=⟨_,rfl⟩
     subst aY;obtain⟨ov,bc⟩:∃x,x=u4:=⟨_,rfl⟩
     subst bc;obtain⟨mz,ba⟩:∃x,x=u5:=⟨_,rfl⟩
     subst ba
   all_goals
    obtain⟨cy,bU⟩:=bp.out;have cn:=a8 bU;clear bU bp;obtain⟨bZ,cx,cc⟩:=bo.slice;subst cc;have cA:z.length≤3:=bP.out;have cB:D.names.length≤300:=ce.out;have z1:WZ.cell? ⟨w.heap.size,1,none⟩=some (.slice a2 D.names.length c2):=(aE.below bn aE.lt).cell 1;go_wp2;clear z1;go_loopw [4,12,14,15,17,85,91] (fun o sm _ _ _ i _ wr=>∃(j:Nat),j≤D.names.length∧i=iI j∧MnI W LT z (.slice bZ z.length cx) (sG D z S j) o sm wr) (fun _ _ _ _ _ i _ _=>D.names.length-(intOf i).toNat)
    case atStart=>exact⟨0,O4 _,rfl,⟨false,rfl,by simp[sG]⟩,⟨cy,by simpa[sG] using cn.out⟩,bo,bn⟩
    case round=>
     obtain⟨j,hj,rfl,⟨b,rfl,bX⟩,⟨bI,bT⟩,bR,bQ⟩:=hrel;have ay:=a8 bX;have az:=a8 bT;have HT:=a8 bR;have HI:=a8 bQ;clear bX bT bR bQ;have aL:=a8 (show(sG D z S j).length≤300 from by
      have h1:=PK (iu z S) ((D.names.take j).map (·.1));rw[OW,Pa] at h1;unfold sG;omega)
     have ak:=a8 (E.trans (HI.mono E.size));by_cases ai:j<D.names.length
     ·have cb:(j:Int)<(D.names.length:Int):=(by omega);obtain⟨b2,o2,e2,aK⟩:=(cj.below ak) (by omega)
      subst e2;obtain⟨k0,k1⟩:=aK j ai;have cv:=ch.out j ai;have ao:=a8 (show(D.names.take (j+1)).map (·.1)=(D.names.take j).map (·.1)++[D.names[j].1] by rw[fD D.names j ai,O7];rfl);generalize D.names[j].1=nm at k0 cv ao;generalize D.names[j].2=nd at k1;generalize hF:sG D z S j=F at ay az aL;have HF:=a8 hF;clear hF aK;have aa:=nAl wr (.cells #[.string nm,.int .i64 nd] 63);have E1:=a8 (dQ wr #[.string nm,.int .i64 nd] 63);have bm:=a8 (az.below' aa);have N:=a8 (eZ HT aa);have aF:=bTr HI aa;have cF:=a8 (show D.names.length-(j+1)<D.names.length-j by omega);have bL:=a8 (fun(h:iu z S nm=false)=>show sG D z S (j+1)=F from by unfold sG at*;rw[ao.out,uY,HF.out,h,OR (by simp),Pm]);have co:=a8 (fun(h:iu z S nm=true)=>show sG D z S (j+1)=F++[nm] from by unfold sG at*;rw[ao.out,uY,HF.out,OS h]);clear aa az HT HI;go_upto_region 25 with fail;generalize wr.alloc (.cells #[.string nm,.int .i64 nd] 63)=X at E1 bm N aF⊢;clear k0 k1;have e0:X.cell? ⟨wr.heap.size,0,none⟩=some (.string nm):=E1.cell 0;generalize wr.heap.size=ge at e0⊢;clear E1 ak;go_wp2;go_loop [15,17,91] (fun u _ i=>∃(k:Nat) (c:Bool),k≤z.length∧i=iI k∧u= .bool c∧Hid (c=true↔nm∈z.take k)) (fun _ _ i=>z.length-(intOf i).toNat)
      case atStart=>exact⟨0,false,O4 _,rfl,rfl,a8 (by simp)⟩
      case round=>
       obtain⟨k,c,hk,rfl,rfl,HC⟩:=hrel;by_cases bq:k<z.length
       ·have cz:(k:Int)<(z.length:Int):=(by omega);obtain⟨gm,cq,km⟩:∃gm,bZ=some ⟨gm,0,none⟩∧X.cell? ⟨gm,k,none⟩=some (.string z[k]):=by
         rcases N.at with⟨_,e⟩|⟨g,cap,e,_,_,_,aK⟩
         ·rw[e] at bq;exact OH bq (Nat.not_lt_zero _)
         ·simp only[O3] at e;have:=aK k z[k] (OZ bq);rw[Ps] at this;exact⟨g,e.1,this⟩
        subst cq;have bl:=a8 (show z.take (k+1)=z.take k++[z[k]] from fD z k bq);generalize z[k]=q at km bl;cases c with
        |true=>
         have aM:=a8 (show true=true↔nm∈z.take (k+1) by rw[bl.out,Pj];simp[HC.1 rfl]);go_wp2;go_round
         case rel=>exact⟨k+1,true,by omega,by go_num,rfl,aM⟩
         case measure=>simp[intOf];omega
        |false=>
         by_cases hq:q=nm
         ·have ct:=iE hq;have aM:=a8 (show true=true↔nm∈z.take (k+1) by rw[bl.out,Pj];simp[hq]);clear hq;go_wp2;go_round
          case rel=>exact⟨k+1,true,by omega,by go_num,rfl,aM⟩
          case measure=>simp[intOf];omega
         ·have ct:=iF hq;have aM:=a8 (show false=true↔nm∈z.take (k+1) by
           rw[bl.out,Pj,←HC.out];exact⟨.inl,fun h=>h.elim id (fun h=>OH (Ph.1 h).symm hq)⟩)
          clear hq;go_wp2;go_round
          case rel=>exact⟨k+1,false,by omega,by go_num,rfl,aM⟩
          case measure=>simp[intOf];omega
       ·have cr:k=z.length:=(by omega);subst cr;rw[PA] at HC;have cI:¬((z.length:Int)<(z.length:Int)):=(by omega);cases c with
        |true=>
         have aO:=a8 (bL.out (Kh (HC.1 rfl)));go_wp2;go_roundw
         case rel=>exact⟨j+1,by omega,by go_num,by rw[aO.out];exact⟨⟨b,rfl,by exact ay.out⟩,⟨_,by exact bm.out⟩,N,aF⟩⟩
         case measure=>simp[intOf];omega
        |false=>
         have cg:=a8 (show nm∉z from fun h=>by have:=HC.2 h;cases this);have ad:=a8 (aI.below aF aI.lt);obtain⟨s0,s1,s2,s3,s4,s5,s6,s7,s8⟩:=ad.c9;have CK:=a8 (AS _ S _ nm X (by omega) bh bO (ck.below aF));have bx:=a8 (G6 (s:=S) cg);have cd:=a8 (show ge<X.heap.size from dG e0);clear ad HC;go_wp2_with fail;refine CK.mono ?_;rintro e w4 ⟨rfl,O⟩;have V:=bTr aF O;have Z:=a8 (bm.below' O);have af:=a8 (eZ N O);have e4:w4.cell? ⟨ge,0,none⟩=some (.string nm):=(O.cell (p:=⟨ge,0,none⟩) cd).trans e0;clear O CK e0 s0 s1 s2 s3 s4 s5 s6 s7 s8 bm N aF;generalize gZ S nm=kb at bx⊢;cases kb with
         |true=>
          have aO:=a8 (bL.out (by rw[bx.out];rfl));go_wp2;go_roundw
          case rel=>exact⟨j+1,by omega,by go_num,by rw[aO.out];exact⟨⟨b,rfl,by exact ay.out⟩,⟨_,by exact Z.out⟩,af,V⟩⟩
          case measure=>simp[intOf];omega
         |false=>
          have aO:=a8 (co.out (by rw[bx.out];rfl));go_wp2_with fail;refine(F8 nm w4).mono ?_;rintro e G ⟨rfl,ar⟩;have aa:=nAl G (.cells (gD [(.int .i64 5,.string nm,.string fK,sN)]).toArray 66);have Y:=bTr V ar;have bA:=a8 (lg G W.heap.size [f8 nm] Y.size (by simp) (by simp[f8]));have ab:=a8 ((Z.below' ar).below' aa);have ae:=a8 (eZ (eZ af ar) aa);have J:=bTr Y aa;have aw:=a8 (show(LT++F.map f8).length+[f8 nm].length≤1048576 by rw[O1,OW,List.length_singleton];have:=bB.out;have:=aL.out;omega);clear ar aa e4 Z af V;go_wp2_with (at_builtin;(refine eL _ rfl (.tmp 112) (.tmp 116) rfl W.heap.size _ bI (LT++F.map f8) rfl ?_ (sS G.heap.size 1 1) (ru [f8 nm]) [f8 nm] rfl ?_ ?_ ?_ ?_ ?_;(exact ab.out);(exact bA.out);(exact Nat.succ_pos 0);(exact aw.out);(exact J.size);intro v7 w7 h7 R;have aq:=a8 h7;have aj:=a8 (io J ab R J.size);have aJ:=a8 (ae.keptV ab R);clear h7 R))
          go_roundw
          case rel=>exact⟨j+1,by omega,by go_num,by rw[aO.out];exact⟨⟨true,rfl,by simp⟩,⟨_,by rw[O7,←PH];exact aq.out⟩,aJ,aj⟩⟩
          case measure=>simp[intOf];omega
     ·have bF:j=D.names.length:=(by omega);subst bF;have cm:=a8 (show sG D z S D.names.length=(D.names.map (·.1)).filter (iu z S) by unfold sG;rw[PA]);rw[cm.out] at ay az aL;have cC:¬((D.names.length:Int)<(D.names.length:Int)):=(by omega);generalize (D.names.map (·.1)).filter (iu z S)=F at ay az aL aN;cases b with
      |false=>
       have hF:F=[]:=by
        have h1:=ay.out;exact Pp.1 (by
         by_cases h:0<F.length
         ·have:=h1.2 h;cases this
         ·omega)
       subst hF;have HR:=a8 (show fU wr w.heap.size _ bI (iT D) from by rw[aN.out];simpa[iX] using az.mono E.size);go_wp2;go_ret;exact⟨_,_,rfl,HR,ak⟩
      |true=>
       have hF:F≠[]:=fun e=>(by have:=ay.1 rfl;rw[e] at this;exact OH this (Nat.lt_irrefl _));have ci:=a8 (show iT D=(LT++F.map f8)++[iz] by rw[aN.out];unfold iX;rw[OR hF,PH]);clear hF;go_wp2_with fail;refine(rL wr).mono ?_;rintro e G ⟨rfl,ar⟩;have aa:=nAl G (.cells (gD [(.int .i64 6,.string fK,.string fK,sN)]).toArray 66);have Y:=bTr HI ar;have bA:=a8 (lg G W.heap.size [iz] Y.size (by simp) (by simp));have ab:=a8 ((az.below' ar).below' aa);have J:=bTr Y aa;have aw:=a8 (show(LT++F.map f8).length+[iz].length≤1048576 by rw[O1,OW,List.length_singleton];have:=bB.out;have:=aL.out;omega);clear ar aa;go_wp2_with (at_builtin;(refine eL _ rfl (.tmp 120) (.tmp 122) rfl W.heap.size _ bI (LT++F.map f8) rfl ?_ (sS G.heap.size 1 1) (ru [iz]) [iz] rfl ?_ ?_ ?_ ?_ ?_;(exact ab.out);(exact bA.out);(exact Nat.succ_pos 0);(exact aw.out);(exact J.size);intro v7 w7 h7 R;have aq:=a8 h7;have aj:=a8 (io J ab R J.size);clear h7 R))
       go_ret;exact⟨v7,_,rfl,by rw[ci.out];exact aq.mono E.size,E.trans (aj.mono E.size)⟩
structure VA(w:World)(base:Nat)(v:Value)(vs:List V4)(os:List OpV):Prop where
 len:vs.length=os.length
 row:gy w base 66 v vs
 body:∀i (h:i<os.length),∃a c,vs[i]? =some (.int .i64 os[i].1,.string os[i].2.1,.string os[i].2.2.1,.slice a os[i].2.2.2.length c)∧(os[i].2.2.2≠[]→dR w base (.slice a os[i].2.2.2.length c) os[i].2.2.2)
 ap:∀i j (hi:i<os.length) (hj:j<os.length) x y,i≠j→vs[i]? =some x→vs[j]? =some y→os[i].2.2.2≠[]→os[j].2.2.2≠[]→x.2.2.2.ownBlock≠y.2.2.2.ownBlock
theorem fU.va{L:Nat}{v:Value}{G:List V4}{os:List OpV}(h:fU w L v G os)(Q:ApV G os):VA w L v G os:=by
 have R:=h.len;refine⟨h.len,h.row,fun i hi=> ?_,?_⟩
 ·obtain⟨x,A,z⟩:=h.body i hi;obtain⟨a,c,rfl⟩:=z.slice;exact⟨a,c,A,fun _=>z⟩
 ·have M:∀i j (hi:i<os.length) (I:j<os.length) x y,i<j→G[i]? =some x→G[j]? =some y→os[i].2.2.2≠[]→os[j].2.2.2≠[]→x.2.2.2.ownBlock≠y.2.2.2.ownBlock:=fun i j hi I x y N A z J K=>by
   have E:=(Pn.1 Q) i j (by rw[List.length_zip];omega) (by rw[List.length_zip];omega) N;rw[List.getElem_zip,List.getElem_zip] at E;rw[OZ (by omega),OY] at A z;rw[←A,←z];exact E J K
  intro i j hi I x y O A z J K;rcases Nat.lt_or_gt_of_ne O with E|E
  ·exact M i j hi I x y E A z J K
  ·exact(M j i I hi y x E z A K J).symm
theorem VA.below{v:Value}{E:List V4}{os:List OpV}(h:VA w z v E os)(A:Below w.heap.size w w'):VA w' z v E os:=
 ⟨h.len,h.row.below A (OV _),fun i hi=>by
  obtain⟨a,c,G,I⟩:=h.body i hi;exact⟨a,c,G,fun n=>(I n).below A (OV _)⟩,h.ap⟩
theorem VA.at{L:Nat}{a:OA}{R:List V4}{os:List OpV}(h:VA w L (.slice a n cap) R os):lI w a os:=fun hp=>by
 have Y:=h.len;rcases h.row.2 with⟨_,Z⟩|⟨g,U,V,J,_⟩
 ·omega
 ·simp only[O3] at J;obtain⟨rfl,rfl,rfl⟩:=J;refine⟨g,0,rfl,fun i M=> ?_⟩;obtain⟨A,E,G,I⟩:=gy.cells h.row i (by omega);obtain⟨N,O,z,Q⟩:=h.body i M;rw[OZ (by omega)] at z;simp only[OY] at z;rw[z] at A E G I;rw[Ps];refine⟨N,O,A,E,G,I,?_⟩;by_cases K:os[i].2.2.2=[]
  ·rw[K];exact fun h=>OH h (Nat.lt_irrefl _)
  ·exact(Q K).row
theorem VA.upd{I:Nat}{v:Value}{G:List V4}{os:List OpV}(h:VA w I v G os)(hj:j<os.length)(A:OpV)(x y:V4)(Z:G[j]? =some x)(hy:y=(.int .i64 A.1,.string A.2.1,.string A.2.2.1,x.2.2.2))(N:A.2.2.2.length=os[j].2.2.2.length)(ab:gy w' I 66 v (G.set j y))
  (hk:∀i (hi:i<os.length) z,i≠j→G[i]? =some z→os[i].2.2.2≠[]→dR w I z.2.2.2 os[i].2.2.2→dR w' I z.2.2.2 os[i].2.2.2) (hs:A.2.2.2≠[]→dR w' I x.2.2.2 A.2.2.2):VA w' I v (G.set j y) (os.set j A):=by
 have aa:=h.len;have R:j<G.length:=(by omega);have ae:∀O Q:LN,O.length=Q.length→O≠[]→Q≠[]:=fun O Q e E M=>E (Pp.1 (by rw[e,M];rfl));refine⟨by simp[aa],ab,fun i hi=> ?_,fun i k hi U p q ac hp hq n1 n2=> ?_⟩
 ·have J:i<os.length:=(by simpa using hi);by_cases e:j=i
  ·subst e;obtain⟨a,c,E,_⟩:=h.body j J;rw[Z,OY] at E;rw[Pq,List.getElem?_set_self R];refine⟨a,c,by rw[hy,E,N],fun n=> ?_⟩;have:=hs n;rw[E] at this;rw[N];exact this
  ·rw[List.getElem_set_ne e,List.getElem?_set_ne e];obtain⟨a,c,E,M⟩:=h.body i J;exact⟨a,c,E,fun n=>hk i J _ (fun e'=>e e'.symm) E n (M n)⟩
 ·have J:i<os.length:=(by simpa using hi);have V:k<os.length:=(by simpa using U);have Y:∀m (hm:m<os.length) (ad:m<(os.set j A).length) z,(G.set j y)[m]? =some z→(os.set j A)[m].2.2.2≠[]→∃z',G[m]? =some z'∧z'.2.2.2=z.2.2.2∧os[m].2.2.2≠[]:=fun m hm ad z L K=>by
   by_cases e:j=m
   ·subst e;rw[List.getElem?_set_self R,OY] at L;rw[Pq] at K;exact⟨x,Z,by rw[←L,hy],ae _ _ N K⟩
   ·rw[List.getElem?_set_ne e] at L;rw[List.getElem_set_ne e] at K;exact⟨z,L,rfl,K⟩
  obtain⟨p',af,ep,np⟩:=Y i J hi p hp n1;obtain⟨q',ag,eq,nq⟩:=Y k V U q hq n2;rw[←ep,←eq];exact h.ap i k J V p' q' ac af ag np nq
theorem VA.put{G:Nat}{A:List V4}{os:List OpV}(h:VA w G (sS g n cap) A os)(O:j<os.length)(i:Nat)(u:Value)(E:OpV)(N:E.2.2.2=os[j].2.2.2)(V:∀(I:j<A.length),(gD A).set (j*4+i) u=gD (A.set j (.int .i64 E.1,.string E.2.1,.string E.2.2.1,A[j].2.2.2))):∃Q,VA (w.setCell ⟨g,j*4+i,none⟩ u) G (sS g n cap) Q (os.set j E):=by
 have Y:=h.len;have I:j<A.length:=(by omega);have U:=(World.ownsRow.stored (g:=g) (cap:=cap) (show w.ownsRow G 66 4 (sS g A.length cap) A.length (gD A) from by
  obtain⟨a,c,L⟩:=gy.slice h.row;simp only[O3] at L;obtain⟨_,rfl,rfl⟩:=L;exact h.row) (j*4+i) u).2
 have K:∀(z:Value) (l:LN),dR w G z l→dR (w.setCell ⟨g,j*4+i,none⟩ u) G z l:=fun z l J=>OE J U (mD J h.row (by decide));refine⟨_,h.upd O E A[j] _ (OZ I) rfl (by rw[N]) (gy.put h.row j i u _ (V I) (by simp)) (fun i hi z _ _ _ J=>K _ _ J) (fun n=> ?_)⟩;obtain⟨a,c,M,R⟩:=h.body j O;rw[OZ I,OY] at M;rw[N] at n⊢;have:=K _ _ (R n);rw[M];exact this
theorem VA.put3{G:Nat}{J:List V4}{os:List OpV}(h:VA w G (sS g n cap) J os)(I:j<os.length):
  (∀z:Int,∃E,VA (w.setCell ⟨g,j*4,none⟩ (.int .i64 z)) G (sS g n cap) E (os.set j (z,os[j].2)))∧(∀z:BA,∃E,VA (w.setCell ⟨g,j*4+1,none⟩ (.string z)) G (sS g n cap) E (os.set j (os[j].1,z,os[j].2.2)))∧(∀z:BA,∃E,VA (w.setCell ⟨g,j*4+2,none⟩ (.string z)) G (sS g n cap) E (os.set j (os[j].1,os[j].2.1,z,os[j].2.2.2))):=by
 obtain⟨a,c,M,_⟩:=h.body j I;have K:=fun(A:j<J.length) (u:Value)=>Iz J j u A;have L:=fun(A:j<J.length)=>PJ ((OZ A).symm.trans M);refine⟨fun z=> ?_,fun z=> ?_,fun z=> ?_⟩
 ·have:=h.put I 0 (.int .i64 z) (z,os[j].2) rfl (fun A=>by rw[Nat.add_zero,(K A _).1,L A]);exact this
 ·exact h.put I 1 (.string z) (os[j].1,z,os[j].2.2) rfl (fun A=>by rw[(K A _).2.1,L A])
 ·exact h.put I 2 (.string z) (os[j].1,os[j].2.1,z,os[j].2.2.2) rfl (fun A=>by rw[(K A _).2.2.1,L A])
theorem VA.data{I:Nat}{v:Value}{A:List V4}{os:List OpV}{l:LN}(h:VA w I v A os)(G:j<os.length)(hx:∃p,A[j]? =some p∧p.2.2.2=x)(L:os[j].2.2.2≠[])(Z:l.length=os[j].2.2.2.length)(ho:dR w' I x l)(K:w.grownBy w' x.ownBlock):VA w' I v A (os.set j (os[j].1,os[j].2.1,os[j].2.2.1,l)):=by
 obtain⟨p,M,rfl⟩:=hx;obtain⟨a,c,E,Y⟩:=h.body j G;have U:=Y L;rw[E,OY] at M;subst M;have Q:j<A.length:=(by rw[h.len];exact G);have N:A.set j (.int .i64 os[j].1,.string os[j].2.1,.string os[j].2.2.1,.slice a os[j].2.2.2.length c)=A:=by
  have e:=PJ ((OZ Q).symm.trans E);rw[←e,List.set_getElem_self]
 have J:=h.upd (w':=w') G (os[j].1,os[j].2.1,os[j].2.2.1,l) _ (.int .i64 os[j].1,.string os[j].2.1,.string os[j].2.2.1,.slice a os[j].2.2.2.length c) E rfl Z (by rw[N];exact OE h.row K (mD h.row U (by decide))) (fun i hi z O hz R V=>OE V K (.inr (h.ap i j hi G z _ O hz E R L))) (fun _=>ho);rw[N] at J;exact J
theorem VA.cells{z:List V4}{os:List OpV}(h:VA w A (sS g n cap) z os)(M:j<os.length):∃a c,w.cell? ⟨g,j*4,none⟩=some (.int .i64 os[j].1)∧w.cell? ⟨g,j*4+1,none⟩=some (.string os[j].2.1)∧w.cell? ⟨g,j*4+2,none⟩=some (.string os[j].2.2.1)∧w.cell? ⟨g,j*4+3,none⟩=some (.slice a os[j].2.2.2.length c)∧(∃p,z[j]? =some p∧p.2.2.2= .slice a os[j].2.2.2.length c)∧(os[j].2.2.2≠[]→dR w A (.slice a os[j].2.2.2.length c) os[j].2.2.2):=by
 obtain⟨a,c,L,N⟩:=h.body j M;have E:j<z.length:=(by rw[h.len];exact M);obtain⟨G,I,J,K⟩:=gy.cells h.row j E;have e:=PJ ((OZ E).symm.trans L);rw[e] at G I J K;exact⟨a,c,G,I,J,K,⟨_,L,rfl⟩,N⟩
def kVo(k:Nat):List OpV→Nat→Nat
 |_,0=>k
 |[],_=>k
 |u::r,i+1=>kVo (k+3+u.2.2.2.length) r i
def GA(k:Nat)(u:OpV):OpV:=((k:Int),mtx (k+1),mtx (k+2),jG (k+3) u.2.2.2.length)
def muV(k:Nat):List OpV→List OpV
 |[]=>[]
 |u::r=>GA k u::muV (k+3+u.2.2.2.length) r
theorem jR:∀(k:Nat) (us:List OpV),(muV k us).length=us.length
 |_,[]=>rfl
 |k,u::r=>by rw[muV,Pf,Pf,jR]
theorem DM:∀(k:Nat) (us:List OpV) (i:Nat) (h:i<us.length),(muV k us)[i]? =some (GA (kVo k us i) us[i])
 |k,u::r,0,_=>rfl
 |k,u::r,i+1,h=>by rw[muV,Px,DM (k+3+u.2.2.2.length) r i (by simpa using h)];rfl
 |_,[],i,h=>by simp at h
theorem nO:∀(k:Nat) (us:List OpV) (i:Nat) (h:i<us.length),kVo k us (i+1)=kVo k us i+3+us[i].2.2.2.length
 |k,u::r,0,_=>by cases r<;>rfl
 |k,u::r,i+1,h=>by
  show kVo (k+3+u.2.2.2.length) r (i+1)=kVo (k+3+u.2.2.2.length) r i+3+_;rw[nO (k+3+u.2.2.2.length) r i (by simpa using h)];rfl
 |_,[],i,h=>by simp at h
theorem I8(k:Nat)(us:List OpV)(i:Nat)(h:i≤us.length):kVo k us i≤kVo k us us.length:=by
 induction hn:us.length-i generalizing i with
 |zero=>rw[show i=us.length from by omega];exact OV _
 |succ n ih=>
  have z:=ih (i+1) (by omega) (by omega);rw[nO k us i (by omega)] at z;omega
theorem EP(k:Nat)(us:List OpV)(i:Nat)(h:i≤us.length):k≤kVo k us i:=by
 induction i with
 |zero=>cases us<;>exact OV _
 |succ i ih=>
  have:=ih (by omega);rw[nO k us i (by omega)];omega
def nR(k:Nat)(us:List OpV)(j:Nat):List OpV:=(muV k us).take j++us.drop j
theorem Gw(k:Nat)(us:List OpV):nR k us 0=us:=by simp[nR]
theorem Jt(k:Nat)(us:List OpV):nR k us us.length=muV k us:=by
 unfold nR;rw[Pc (by rw[jR];exact OV _)];simp
theorem Be(k:Nat)(us:List OpV)(j:Nat)(h:j≤us.length):(nR k us j).length=us.length:=by
 unfold nR;rw[O1,Pa,O9,jR];omega
theorem Lx(k:Nat)(us:List OpV)(j:Nat)(h:j<us.length)(z:j<(nR k us j).length):(nR k us j)[j]=us[j]:=by
 have e:(nR k us j)[j]? =some us[j]:=by
  unfold nR;have A:((muV k us).take j).length=j:=(by rw[Pa,jR];omega);rw[PW (by omega),A,Nat.sub_self,Pv h];rfl
 rw[OZ z] at e;simpa using e
theorem Ju(k:Nat)(us:List OpV)(j:Nat)(h:j<us.length):(nR k us j).set j (GA (kVo k us j) us[j])=nR k us (j+1):=by
 unfold nR;have z:((muV k us).take j).length=j:=(by rw[Pa,jR];omega);rw[List.set_append_right _ _ (by omega),z,Nat.sub_self,Pv h,PL,List.take_add_one,DM k us j h];simp
theorem Ls(a:OA)(cap k:Nat)(w:World):Calls prog 38 #[.slice a 0 cap,.int .i64 (k:Int)] w fun e w'=>e= .returned (.int .i64 (k:Int))∧w'=w:=by
 go_enter func38,ntmps38;go_wp2;go_loopw [1,5] (fun s i wr=>i= .int .i64 0∧s=iI k∧wr=w) (fun _ _ _=>0)
 case atStart=>exact⟨rfl,rfl,rfl⟩
 case round=>
  obtain⟨rfl,rfl,rfl⟩:=hrel;go_wp2;go_ret;exact⟨rfl,rfl⟩
theorem Gj(z:Nat)(v:Value)(E:List V4)(os:List OpV)(j k:Nat)(a:OA)(c:Nat)(w:World)(L:z≤w.heap.size)(M:k≤4503599627370496)(N:∀h:j<os.length,os[j].2.2.2.length≤4503599627370496)(h:VA w z v E os)(I:j<os.length)(Q:∃p,E[j]? =some p∧p.2.2.2= .slice a os[j].2.2.2.length c)(J:os[j].2.2.2≠[]→dR w z (.slice a os[j].2.2.2.length c) os[j].2.2.2):
  Calls prog 38 #[.slice a os[j].2.2.2.length c,.int .i64 (k:Int)] w fun e w'=>e= .returned (.int .i64 ((k+os[j].2.2.2.length:Nat):Int))∧VA w' z v E (os.set j (os[j].1,os[j].2.1,os[j].2.2.1,jG k os[j].2.2.2.length))∧Below z w w':=by
 by_cases A:os[j].2.2.2=[]
 ·have O:os.set j (os[j].1,os[j].2.1,os[j].2.2.1,jG k os[j].2.2.2.length)=os:=by
   have e:(os[j].1,os[j].2.1,os[j].2.2.1,jG k os[j].2.2.2.length)=os[j]:=by
    rw[A];show(os[j].1,os[j].2.1,os[j].2.2.1,([]:LN))=os[j];rw[←A]
   rw[e,List.set_getElem_self]
  rw[O,A];refine(Ls a c k w).mono ?_;rintro e w' ⟨rfl,rfl⟩;exact⟨rfl,h,OX _ _⟩
 ·refine(vO z a c k os[j].2.2.2 w M (N I) (J A)).mono ?_;rintro e w' ⟨rfl,K,G,_⟩;exact⟨rfl,h.data I Q A (by rw[iY]) K G,(OX _ _).grown G L (fun q e=>(OF (J A) q e).1)⟩
theorem Gr(A:Nat)(a:OA)(cap k:Nat)(us:List OpV)(vs:List V4)(w:World)(hB:A≤w.heap.size)(h0:0<k)(hk:kVo k us us.length≤4503599627370000)(hl:us.length≤4503599627370000)(ak:VA w A (.slice a us.length cap) vs us):
  Calls prog 11 #[.slice a us.length cap,.int .i64 (k:Int)] w fun e w'=>e= .returned (.int .i64 ((kVo k us us.length:Nat):Int))∧(∃G,VA w' A (.slice a us.length cap) G (muV k us))∧Below A w w':=by
 have HB:=a8 hB;go_enter func11,ntmps11;go_wp2;go_loopw [1,5] (fun s i wr=>∃j:Nat,j≤us.length∧i= .int .i64 j∧s= .int .i64 ((kVo k us j:Nat):Int)∧Hid (∃G,VA wr A (.slice a us.length cap) G (nR k us j))∧Hid (Below A w wr)) (fun _ i _=>us.length-(intOf i).toNat)
 case atStart=>exact⟨0,O4 _,rfl,by cases us<;>rfl,a8 ⟨vs,by rw[Gw];exact ak⟩,a8 (OX _ _)⟩
 case round=>
  obtain⟨j,hj,rfl,rfl,HV,HF⟩:=hrel;obtain⟨aI,z⟩:=HV.out;clear ak HV;by_cases ai:j<us.length
  ·have aH:=Be k us j hj;obtain⟨g,aG⟩:∃g,a=some ⟨g,0,none⟩:=by
    rcases z.row.2 with⟨_,hn⟩|⟨g,c',aJ,h',_⟩
    ·have:=z.len;omega
    ·simp only[O3] at h';exact⟨g,h'.1⟩
   subst aG;have ag:A≤g:=(pm z.row rfl).1;have E:j<(nR k us j).length:=(by omega);have ap:=Lx k us j ai E;have J:=a8 (Ju k us j ai);have R:=a8 (nO k us j ai);have ah:=I8 k us (j+1) (by omega);rw[R.out] at ah;have hK:=O0 ah hk;have aF:0<kVo k us j:=Pb h0 (EP k us j hj);have L:=a8 ap;clear ah hk aH ap;generalize kVo k us j=K at J R hK aF⊢;generalize us[j]=u at J R hK L;generalize nR k us j=M at z J E L;have aK:g<wr.heap.size:=(pm z.row rfl).2;obtain⟨_,_,z0,_⟩:=z.cells E;have f0:=gy.frozen z.row (j*4);obtain⟨aL,h2⟩:=(z.put3 E).1 (K:Int);have HO:=a8 h2;have N:=a8 (HF.setCell (p:=⟨g,j*4,none⟩) ag (iI K));clear h2 z HF;go_wp2_with fail;generalize wr.setCell ⟨g,j*4,none⟩ (iI K)=w1 at HO N⊢;have e1:((K:Int)+1)=((K+1:Nat):Int):=(by omega);rw[e1];clear e1 z0 f0;refine(lS (K+1) w1 (by omega) (by omega)).mono ?_;rintro e w2 ⟨rfl,ae⟩;have U:=HO.below ae;have al:=a8 (N.trans (ae.mono (O0 HB N.size)));have ar:j<(M.set j ((K:Int),M[j].2)).length:=(by simpa using E);obtain⟨_,_,_,z1,_⟩:=U.cells ar;have f1:=gy.frozen U.row (j*4+1);generalize aw:mtx (K+1)=I;have aC:=a8 aw;obtain⟨aM,h3⟩:=(U.put3 ar).2.1 I;simp only[Pq,List.set_set] at h3 z1;have aa:=a8 h3;have O:=a8 (al.setCell (p:=⟨g,j*4+1,none⟩) ag (.string I));clear h3 U ae HO N al aw;go_wp2_with fail;generalize w2.setCell ⟨g,j*4+1,none⟩ (.string I)=w3 at aa O⊢;have e2:(((K+1:Nat):Int)+1)=((K+2:Nat):Int):=(by omega);have an:((K:Int)+1+1)=((K+2:Nat):Int):=by omega
   first
    |rw[e2]
    |rw[an]
   clear e2 an z1 f1;refine(lS (K+2) w3 (by omega) (by omega)).mono ?_;rintro e w4 ⟨rfl,af⟩;have V:=aa.below af;have am:=a8 (O.trans (af.mono (O0 HB O.size)));have au:j<(M.set j ((K:Int),I,M[j].2.2)).length:=(by simpa using E);obtain⟨_,_,_,_,z2,_⟩:=V.cells au;have f2:=gy.frozen V.row (j*4+2);generalize ax:mtx (K+2)=t2;have aD:=a8 ax;obtain⟨aA,Z⟩:=(V.put3 au).2.2 t2;simp only[Pq,List.set_set] at Z z2;have av:j<(M.set j ((K:Int),I,t2,M[j].2.2.2)).length:=(by simpa using E);obtain⟨ad,ac,_,_,_,z3,az,ay⟩:=Z.cells av;have ab:=a8 Z;have Q:=a8 (am.setCell (p:=⟨g,j*4+2,none⟩) ag (.string t2));clear Z V af aa O am ax;have e3:((K+3:Nat):Int)=(K:Int)+3:=(by omega);have Y:=a8 (Gj A _ aA _ j (K+3) ad ac _ (O0 HB Q.size) (by omega) (fun h=>by rw[Pq,L.out];show u.2.2.2.length≤4503599627370496;omega) ab av az ay);simp only[Pq,List.set_set,L.out] at Y z3;clear az ay;go_wp2_with fail;generalize w4.setCell ⟨g,j*4+2,none⟩ (.string t2)=w5 at Y ab Q z3⊢;have e4:(((K+2:Nat):Int)+1)=((K+3:Nat):Int):=(by omega);have ao:((K:Int)+2+1)=((K+3:Nat):Int):=(by omega);have aj:((K:Int)+1+1+1)=((K+3:Nat):Int):=by omega
   first
    |rw[e4]
    |rw[ao]
    |rw[aj]
   clear e4 ao aj z2 f2 e3;refine Y.mono ?_;rintro e w6 ⟨rfl,h6,aq⟩;have aE:=a8 (show∃G,VA w6 A (sS g us.length cap) G (nR k us (j+1)) from⟨aA,by
    rw[←J.out];unfold GA;rw[aC.out,aD.out];exact h6⟩)
   have aB:=a8 (Q.trans aq);clear h6 aq Y ab Q z3;go_wp2;go_roundw
   case rel=>exact⟨j+1,by omega,by go_num,fM (by rw[R.out];omega),aE,aB⟩
   case measure=>simp[intOf];omega
  ·obtain rfl:j=us.length:=(by omega);rw[Jt] at z;go_wp2;go_ret;exact⟨rfl,⟨aI,z⟩,HF⟩
end Go.Proofs.YtkkdfgnnlpohlaaGreatDoor
