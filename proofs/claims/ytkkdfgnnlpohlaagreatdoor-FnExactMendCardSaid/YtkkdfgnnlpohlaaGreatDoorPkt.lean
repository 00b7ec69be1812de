import Derived.Test.YtkkdfgnnlpohlaaGreatDoorPko
import Derived.Test.YtkkdfgnnlpohlaaGreatDoorPkq
namespace Go.Proofs.YtkkdfgnnlpohlaaGreatDoor
set_option maxRecDepth 20000
set_option linter.unusedVariables false
set_option linter.unusedSimpArgs false
set_option maxHeartbeats 4000000
open Go.RowKit Go.Proofs.Tryz
variable {W X Y w w' w0 wr : World} {A B at_ b b2 base' c cap e f g go gs hi i j k lo m n s u val z : Nat} {E G I J K L M N O u0 u1 u2 v0 v1 v2 v3 v4 v5 v6 x y : Value} {o : Oper} {Q : Exit → Act → World → Prop} {cs tmps : Array Value} {t : TypeId} {p : Addr} {l : List Nat} {bvs xs : List Value} {a : List UInt8} {first ok : Bool}
def ml0(m:IM):List Value:=[.int .u32 (m.uid:Int),.int .i64 0,.int .u32 0,sN,sN,.int .i64 (m.stamp:Int),.int .u32 (m.flags:Int),.int .i64 (m.bare:Int),.int .i64 (m.size:Int),.bool false,.string ⟨#[]⟩]
abbrev jc(w:World)(base:Nat)(v:Value)(ms:List IM):Prop:=dM w base 108 11 v (ms.map ml0)
def kK(w:World)(base:Nat)(v:Value)(ds:LN):Prop:=dM w base 44 1 v (ds.map fun d:Nat=>[.int .u32 (d:Int)])
theorem uD{ms:List IM}(h:∀i (hi:i<ms.length),i<j→ms[i].uid≠u)(z:j<ms.length)(e:ms[j].uid=u):jB ms u=some j:=by
 unfold jB;rw[List.findIdx?_eq_some_iff_getElem];exact⟨z,by simpa using e,fun i hi=>by simpa using h i (by omega) hi⟩
theorem uC{ms:List IM}(h:∀i (hi:i<ms.length),ms[i].uid≠u):jB ms u=none:=by
 unfold jB;rw[List.findIdx?_eq_none_iff];intro m z;obtain⟨i,hi,rfl⟩:=PT.1 z;simpa using h i hi
def plI(o:Option Nat):Int:=match o with
 |some i=>(i:Int)
 |none=> -1
theorem rM(L:Nat)(a:OA)(cap:Nat)(ms:List IM)(u:Nat)(w:World)(R:ms.length≤1048576)(K:jc w L (.slice a ms.length cap) ms):
  Calls prog 100 #[.slice a ms.length cap,.int .u32 (u:Int)] w fun e w'=>e= .returned (.int .i64 (plI (jB ms u)))∧w'=w:=by
 go_enter func100,ntmps100;go_wp2;go_loop [5,8] (fun _ i=>∃j:Nat,j≤ms.length∧i= .int .i64 j∧∀k (z:k<ms.length),k<j→ms[k].uid≠u) (fun _ i=>ms.length-(intOf i).toNat)
 case atStart=>exact⟨0,O4 _,rfl,fun k z h=>by omega⟩
 case round=>
  obtain⟨j,Q,rfl,A⟩:=hrel;by_cases J:j<ms.length
  ·obtain⟨g,rfl,_,_⟩:=K.at0 (by rw[OW];omega);have I:=K.cell j 0 (by rw[OW];exact J) (by simp[ml0]);simp only[Po,ml0,List.getElem_cons_zero,Nat.add_zero] at I;by_cases E:ms[j].uid=u
   ·have G:=a8 (uD A J E);rw[E] at I;clear E A;go_wp2;go_ret;exact⟨by rw[G.out];rfl,rfl⟩
   ·have M:¬(((ms[j].uid:Nat):Int)=(u:Int)):=(by omega);have N:=a8 (show∀k (z:k<ms.length),k<j+1→ms[k].uid≠u from fun k z O=>by
     by_cases e:k=j
     ·subst e;exact E
     ·exact A k z (by omega))
    generalize ms[j].uid=U at I M;clear E A;go_wp2;go_round
    case rel=>exact⟨j+1,by omega,by go_num,N⟩
    case measure=>simp[intOf];omega
  ·obtain rfl:j=ms.length:=(by omega);have G:=a8 (uC (fun k z=>A k z z));clear A;go_wp2;go_ret;exact⟨by rw[G.out];rfl,rfl⟩
theorem Lb{ds:LN}{x:Nat}(h:∀i (hi:i<ds.length),ds[i]≠x):decide (x∈ds)=false:=by
 rw[decide_eq_false_iff_not];intro z;obtain⟨i,hi,e⟩:=PT.1 z;exact h i hi e
theorem AQ(L:Nat)(a:OA)(cap:Nat)(ds:LN)(x:Nat)(w:World)(R:ds.length≤1048576)(K:kK w L (.slice a ds.length cap) ds):
  Calls prog 52 #[.slice a ds.length cap,.int .u32 (x:Int)] w fun e w'=>e= .returned (.bool (decide (x∈ds)))∧w'=w:=by
 go_enter func52,ntmps52;go_wp2;go_loop [6,9] (fun _ i=>∃j:Nat,j≤ds.length∧i= .int .i64 j∧∀k (z:k<ds.length),k<j→ds[k]≠x) (fun _ i=>ds.length-(intOf i).toNat)
 case atStart=>exact⟨0,O4 _,rfl,fun k z h=>by omega⟩
 case round=>
  obtain⟨j,Q,rfl,A⟩:=hrel;by_cases J:j<ds.length
  ·obtain⟨g,rfl,_,_⟩:=dM.at0 K (by rw[OW];omega);have I:=dM.cell K j 0 (by rw[OW];exact J) (by simp);simp only[Po,List.getElem_cons_zero,Nat.add_zero,Nat.mul_one] at I;by_cases E:ds[j]=x
   ·have G:=a8 (ON (show x∈ds from E▸O6 J));rw[E] at I;clear E A;go_wp2;go_ret;exact⟨by rw[G.out];rfl,rfl⟩
   ·have M:¬((x:Int)=((ds[j]:Nat):Int)):=(by omega);have N:=a8 (show∀k (z:k<ds.length),k<j+1→ds[k]≠x from fun k z O=>by
     by_cases e:k=j
     ·subst e;exact E
     ·exact A k z (by omega))
    generalize ds[j]=U at I M;clear E A;go_wp2;go_round
    case rel=>exact⟨j+1,by omega,by go_num,N⟩
    case measure=>simp[intOf];omega
  ·obtain rfl:j=ds.length:=(by omega);have G:=a8 (Lb (fun k z=>A k z z));clear A;go_wp2;go_ret;exact⟨by rw[G.out];rfl,rfl⟩
noncomputable def iq(u:Nat)(nm:BA):Bool:=match eR nm.data.toList with
 |some c=>decide (u=0)||decide (c.1=u)
 |none=>false
noncomputable def fj(u:Nat)(ns:List BA):List BA:=ns.filter (iq u)
theorem Fq{D:dO}{u:Nat}(h:u≠0):fj u (D.names.map (·.1))=jJ D u:=by
 unfold fj jJ;congr 1;funext nm;unfold iq;cases eR nm.data.toList with
 |none=>rfl
 |some c=>
  have:decide (u=0)=false:=OM h;simp only[this,Bool.false_or];by_cases e:c.1=u<;>simp[e]
theorem lf{nodes:Int}{z:List EN}(h:eU nodes z=true)(i:Nat)(hi:i<z.length):z[i].1.size≤80:=by
 unfold eU at h;have A:=((OU h).2 i hi).1;unfold mB at A;have E:eX z[i].1=true:=(OU A).1;unfold eX at E;exact(OU E).2.1
theorem fD{α:Type}(l:List α)(j:Nat)(h:j<l.length):l.take (j+1)=l.take j++[l[j]]:=by rw[List.take_add_one,OZ h];rfl
theorem ry{ns:List BA}{nm:BA}(h:iq u nm=true):fj u (ns++[nm])=fj u ns++[nm]:=by simp[fj,List.filter_append,h]
theorem tj{ns:List BA}{nm:BA}(h:iq u nm=false):fj u (ns++[nm])=fj u ns:=by simp[fj,List.filter_append,h]
theorem tg(u:Nat)(ns:List BA):(fj u ns).length≤ns.length:=PK _ _
theorem eZ{v:Value}{xs:List BA}(h:fB w z v xs)(J:Below w.heap.size w w'):fB w' z v xs:=by
 refine⟨h.1,?_⟩;rcases h.2 with K|⟨g,cap,G,L,I,A,E⟩
 ·exact .inl K
 ·exact .inr ⟨g,cap,G,L,I,(J.block g (OT A)).trans A,E⟩
theorem xo(v:Value)(D:dO)(A:Nat)(N:Int)(au:N=(A:Int))(w:World)(hv:eM D)(hd:kJ w v D):
  Calls prog 74 #[v,.int .u32 N] w fun e w'=>∃u,e= .returned u∧fB w' w.heap.size u (fj A (D.names.map (·.1)))∧Below w.heap.size w w':=by
 obtain⟨a1,c1,a2,c2,a3,c3,a4,c4,rfl,r1,r2,r3,r4⟩:=hd;have am:eU (D.nodes.length:Int) D.names=true:=hv.2.2.2.2.1;obtain⟨ay,aA,ar,az⟩:=fX am;have aw:=a8 (lf am);have ab:=a8 au;clear au;have av:=a8 r2;have HA:=a8 (nAl w (.cells #[.slice a1 D.nodes.length c1,.slice a2 D.names.length c2,.slice a3 D.kept.length c3,.slice a4 D.pend.length c4,.int .i64 D.quota] 34));have t1:(w.alloc (.cells #[.slice a1 D.nodes.length c1,.slice a2 D.names.length c2,.slice a3 D.kept.length c3,.slice a4 D.pend.length c4,.int .i64 D.quota] 34)).cell? ⟨w.heap.size,1,none⟩=some (.slice a2 D.names.length c2):=(dQ w _ _).cell 1;have aE:D.names.length≤300:=ar;clear r1 r2 r3 r4 ay aA az am hv ar;generalize D.names=z at*;go_enter func74,ntmps74;go_wp2;generalize w.alloc (.cells #[.slice a1 D.nodes.length c1,.slice a2 z.length c2,.slice a3 D.kept.length c3,.slice a4 D.pend.length c4,.int .i64 D.quota] 34)=w0 at HA t1⊢;clear t1;go_loopw [5,7,8,12] (fun o _ _ i wr=>∃j:Nat,j≤z.length∧i= .int .i64 j∧fB wr w.heap.size o (fj A ((z.take j).map (·.1)))∧Below w.heap.size w wr) (fun _ _ _ i _=>z.length-(intOf i).toNat)
 case atStart=>exact⟨0,O4 _,rfl,by simpa[fj] using fB.nil w0 w.heap.size,HA⟩
 case round=>
  obtain⟨j,hj,rfl,Z,M⟩:=hrel;have aq:=tg A ((z.take j).map (·.1));rw[OW,Pa] at aq;by_cases al:j<z.length
  ·have aD:(j:Int)<(z.length:Int):=(by omega);obtain⟨b2,o2,e2,hc⟩:=(av.below M) (by omega)
   subst e2;obtain⟨k0,k1⟩:=hc j al;have aB:=aw.out j al;have Q:=a8 (show(z.take (j+1)).map (·.1)=(z.take j).map (·.1)++[z[j].1] by rw[fD z j al,O7];rfl);generalize z[j].1=nm at k0 aB Q;generalize z[j].2=nd at k1;have HB:=a8 M;have Y:=a8 Z;have ap:=nAl wr (.cells #[.string nm,.int .i64 nd] 63);have V:=a8 (dQ wr #[.string nm,.int .i64 nd] 63);have aa:=a8 (show fB (wr.alloc (.cells #[.string nm,.int .i64 nd] 63)) w.heap.size u5 (fj A ((z.take j).map (·.1))) from World.ownsRow.alloc Z _);have ad:=a8 (M.trans (ap.mono M.size));have e0:(wr.alloc (.cells #[.string nm,.int .i64 nd] 63)).cell? ⟨wr.heap.size,0,none⟩=some (.string nm):=V.cell 0;clear Z M ap hc;generalize hX:fj A ((z.take j).map (·.1))=xs at Y aa aq;have HX:=a8 hX;clear hX;go_wp2_with fail;generalize wr.alloc (.cells #[.string nm,.int .i64 nd] 63)=w1 at V aa ad e0⊢;refine(kV nm w1 (by omega)).mono ?_;rintro e O ⟨ok,u,s,f,rfl,ao,ak⟩;have an:=nAl O (.cells #[.bool ok,uI u,iI s,uI f] 104);have ac:=ak.trans (an.mono ak.size);have M3:=dQ O #[.bool ok,uI u,iI s,uI f] 104;have I:=a8 (show fB (O.alloc (.cells #[.bool ok,uI u,iI s,uI f] 104)) w.heap.size u5 xs from eZ aa ac);have G:=bTr ad ac;have aj:=(V.below ac V.lt).cell 0;have HC:=a8 (ly ao);clear ao ak an ac Y aa HB ad V e0;go_upto_region 6 with fail;generalize O.alloc (.cells #[.bool ok,uI u,iI s,uI f] 104)=E at M3 I G aj⊢;obtain⟨m0,m1⟩:=M3.c2;have e0:E.cell? ⟨wr.heap.size,0,none⟩=some (.string nm):=aj;clear M3 aj;cases ok with
   |false=>
    have K:=a8 (show iq A nm=false by unfold iq;rw[HC.out];rfl);have L:=a8 (show fj A ((z.take (j+1)).map (·.1))=xs by rw[Q.out,tj K.out,HX.out]);go_wp2;go_roundw
    case rel=>exact⟨j+1,by omega,by go_num,by rw[L.out];exact I.out,G⟩
    case measure=>simp[intOf];omega
   |true=>
    by_cases h0:A=0
    ·have K:=a8 (show iq A nm=true by unfold iq;rw[HC.out];simp[h0]);obtain rfl:N=0:=(by rw[ab.out,h0];rfl);have L:=a8 (show fj A ((z.take (j+1)).map (·.1))=xs++[nm] by rw[Q.out,ry K.out,HX.out]);have ag:=a8 (show(E.alloc (.cells #[.string nm] 9)).cell? ⟨E.heap.size,0,none⟩=some (.string nm) from OK _ _ 0 _ _ _ (OP E (.cells #[.string nm] 9)));have J:=a8 (G.alloc G.size (.cells #[.string nm] 9));have ai:=a8 (show fB (E.alloc (.cells #[.string nm] 9)) w.heap.size u5 xs from World.ownsRow.alloc I _);have af:=a8 (fun k hk=>(OF I k hk).1);clear G I;go_wp2_with (first
      |(at_builtin;refine gd _ rfl (.tmp 31) (.tmp 34) rfl w.heap.size u5 xs nm E.heap.size 1 rfl rfl ?_ ?_ ?_ ?_ ?_;(exact ai.out);(exact ag.out);(omega);(exact J.size);intro v4 w4 U R;have ah:=a8 U;have ae:=a8 R;clear U R)
      |go_in)
     go_roundw
     case rel=>exact⟨j+1,by omega,by go_num,by rw[L.out];exact ah.out,J.grown ae J.size af⟩
     case measure=>simp[intOf];omega
    ·have ax:¬N=0:=(by rw[ab.out];omega);by_cases hu:u=A
     ·have K:=a8 (show iq A nm=true by unfold iq;rw[HC.out];simp[hu]);obtain rfl:N=(u:Int):=(by rw[ab.out,hu]);clear hu;have L:=a8 (show fj A ((z.take (j+1)).map (·.1))=xs++[nm] by rw[Q.out,ry K.out,HX.out]);have ag:=a8 (show(E.alloc (.cells #[.string nm] 9)).cell? ⟨E.heap.size,0,none⟩=some (.string nm) from OK _ _ 0 _ _ _ (OP E (.cells #[.string nm] 9)));have J:=a8 (G.alloc G.size (.cells #[.string nm] 9));have ai:=a8 (show fB (E.alloc (.cells #[.string nm] 9)) w.heap.size u5 xs from World.ownsRow.alloc I _);have af:=a8 (fun k hk=>(OF I k hk).1);clear G I;go_wp2_with (first
       |(at_builtin;refine gd _ rfl (.tmp 31) (.tmp 34) rfl w.heap.size u5 xs nm E.heap.size 1 rfl rfl ?_ ?_ ?_ ?_ ?_;(exact ai.out);(exact ag.out);(omega);(exact J.size);intro v4 w4 U R;have ah:=a8 U;have ae:=a8 R;clear U R)
       |go_in)
      go_roundw
      case rel=>exact⟨j+1,by omega,by go_num,by rw[L.out];exact ah.out,J.grown ae J.size af⟩
      case measure=>simp[intOf];omega
     ·have aF:((u:Int)==N)=false:=(by rw[ab.out];simp;omega);have aC:(N==0)=false:=(by simpa using ax);have K:=a8 (show iq A nm=false by unfold iq;rw[HC.out];simp[hu,h0]);have L:=a8 (show fj A ((z.take (j+1)).map (·.1))=xs by rw[Q.out,tj K.out,HX.out]);go_wp2;go_roundw
      case rel=>exact⟨j+1,by omega,by go_num,by rw[L.out];exact I.out,G⟩
      case measure=>simp[intOf];omega
  ·obtain rfl:j=z.length:=(by omega);have Y:=a8 Z;have HB:=a8 M;clear Z M;rw[PA] at Y;go_wp2;go_ret;exact⟨_,rfl,Y,HB⟩
theorem Jn(g:Nat)(y:BA)(h:y.data.toList=Lib.decDigits g):(⟨#[109,98,111,120,46]⟩:BA)++y=ej g:=by
 apply ByteArray.ext;apply Array.toList_inj.1;unfold ej;rw[ByteArray.data_append,Array.toList_append,h]
theorem wK(g:Nat)(h:g≤99999):(Lib.decDigits g).length≤20:=by
 rw[Lib.decDigits_length];by_cases z:g<10
 ·rw[Lib.nDigits_small z];omega
 rw[Lib.nDigits_big z];by_cases A:g/10<10
 ·rw[Lib.nDigits_small A];omega
 rw[Lib.nDigits_big A];by_cases E:g/10/10<10
 ·rw[Lib.nDigits_small E];omega
 rw[Lib.nDigits_big E];by_cases G:g/10/10/10<10
 ·rw[Lib.nDigits_small G];omega
 rw[Lib.nDigits_big G,Lib.nDigits_small (by omega)];omega
theorem pi(g:Nat)(w:World)(L:g≤99999):Calls prog 21 #[.int .i64 (g:Int)] w fun e w'=>e= .returned (.string (ej g))∧Below w.heap.size w w':=by
 go_enter func21,ntmps21;go_wp2_with fail;refine(ow g w (by omega)).mono ?_;rintro e M ⟨rfl,A⟩;have G:=a8 A;have z:=a8 (Jn g (jd g) rfl);have E:(jd g).size≤20:=by
  have I:(jd g).data.toList.length=(jd g).size:=rfl;have J:(jd g).data.toList=Lib.decDigits g:=rfl;have K:=wK g L;rw[←I,J];exact K
 generalize jd g=y at z E⊢;clear A;go_wp2;go_ret;exact⟨by rw[←z.out];rfl,G⟩
end Go.Proofs.YtkkdfgnnlpohlaaGreatDoor
