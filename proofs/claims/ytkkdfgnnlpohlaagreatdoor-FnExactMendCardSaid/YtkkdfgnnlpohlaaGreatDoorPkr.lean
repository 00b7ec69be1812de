import Derived.Test.YtkkdfgnnlpohlaaGreatDoorPkm
import Derived.Test.YtkkdfgnnlpohlaaGreatDoorPkn
import Derived.Test.YtkkdfgnnlpohlaaGreatDoorPkk
namespace Go.Proofs.YtkkdfgnnlpohlaaGreatDoor
set_option maxRecDepth 20000
set_option linter.unusedVariables false
set_option linter.unusedSimpArgs false
set_option maxHeartbeats 4000000
open Go.RowKit Go.Proofs.Tryz
variable {W X Y w w' w0 wr : World} {A B at_ b b2 base' c cap e f g go gs hi i j k lo m n s u val z : Nat} {E G I J K L M N O u0 u1 u2 v0 v1 v2 v3 v4 v5 v6 x y : Value} {o : Oper} {Q : Exit → Act → World → Prop} {cs tmps : Array Value} {t : TypeId} {p : Addr} {l : List Nat} {bvs xs : List Value} {a : List UInt8} {first ok : Bool}
theorem FZ(n:Nat)(a:OA)(cap:Nat)(r:LN)(G:n=r.length)(w:World)(z:1≤r.length)(A:r.length≤2000)(I:dW w a r)(E:∀x∈r,x<256):
  Calls prog 77 #[.slice a n cap] w fun e w'=>∃v,e= .returned v∧dR w' w.heap.size v (fN r)∧Below w.heap.size w w':=by
 subst G;exact AO a cap r w z A I E
theorem FX(n:Nat)(a:OA)(cap:Nat)(l:LN)(A:n=l.length)(w:World)(z:l.length≤1048576)(E:dW w a l):
  Calls prog 78 #[.slice a n cap] w fun e w'=>e= .returned (.slice (some ⟨w.heap.size,0,none⟩) l.length l.length)∧dR w' w.heap.size (.slice (some ⟨w.heap.size,0,none⟩) l.length l.length) l∧Below w.heap.size w w':=by
 subst A;exact lQ a cap l w z E
theorem vI(b z cap:Nat)(d:LN)(w:World)(A:d.length<6):
  Calls prog 47 #[.slice (some ⟨b,z,none⟩) d.length cap] w fun e w'=>e= .returned (.tuple #[.slice none 0 0,.bool false])∧Below w.heap.size w w':=by
 go_enter func47,ntmps47;go_wp2;go_ret2;exact⟨rfl,OX _ _⟩
theorem AM(b A cap:Nat)(d:LN)(w:World)(N:6≤d.length)(M:d.length≤40000)(G:dW w (some ⟨b,A,none⟩) d)(E:∀x∈d,x<256)(h:gN d<1∨2000<gN d∨d.length<6+gN d):
  Calls prog 47 #[.slice (some ⟨b,A,none⟩) d.length cap] w fun e w'=>e= .returned (.tuple #[.slice none 0 0,.bool false])∧Below w.heap.size w w':=by
 have I:w.cell? ⟨b,A,none⟩=some (.int .u8 ((d.getD 0 0:Nat):Int)):=G.at 0 (by omega);have J:=G.at 1 (by omega);have K:d.getD 0 0<256:=sO E 0;have L:d.getD 1 0<256:=sO E 1;have O:(0:Int)<(d.length:Int):=(by omega);have Q:(1:Int)<(d.length:Int):=(by omega);have z:Hid (((d.getD 0 0:Nat):Int)*256+((d.getD 1 0:Nat):Int)=((gN d:Nat):Int)):=(by show _=_;simp[gN]);generalize gN d=n at h z;generalize d.getD 0 0=Y at I z K;generalize d.getD 1 0=Z at J z L;clear G E;go_enter func47,ntmps47;go_wp2;go_quiet(fail);rw[z.out];clear I J;by_cases R:n<1
 ·go_wp2;go_ret2;exact⟨rfl,OI (OX _ _) _⟩
 by_cases U:2000<n
 ·go_wp2;go_ret2;exact⟨rfl,OI (OX _ _) _⟩
 ·have V:d.length<6+n:=(by omega);clear h;go_wp2;go_ret2;exact⟨rfl,OI (OX _ _) _⟩
theorem yz(b A cap:Nat)(d:LN)(w:World)(hl:6≤d.length)(aw:d.length≤40000)(ap:d.length≤cap)(J:dW w (some ⟨b,A,none⟩) d)(Y:∀x∈d,x<256)(h1:1≤gN d)(h2:gN d≤2000)(h3:6+gN d≤d.length):
  Calls prog 47 #[.slice (some ⟨b,A,none⟩) d.length cap] w fun e w'=>Below w.heap.size w w'∧((fN ((d.drop 6).take (gN d))=d.take (6+gN d)∧∃v,e= .returned (.tuple #[v,.bool true])∧dR w' w.heap.size v ((d.drop 6).take (gN d)))∨(¬fN ((d.drop 6).take (gN d))=d.take (6+gN d)∧e= .returned (.tuple #[.slice none 0 0,.bool false]))):=by
 have c0:w.cell? ⟨b,A,none⟩=some (.int .u8 ((d.getD 0 0:Nat):Int)):=J.at 0 (by omega);have c1:=J.at 1 (by omega);have an:d.getD 0 0<256:=sO Y 0;have ao:d.getD 1 0<256:=sO Y 1;have i0:(0:Int)<(d.length:Int):=(by omega);have i1:(1:Int)<(d.length:Int):=(by omega);have M:Hid (((d.getD 0 0:Nat):Int)*256+((d.getD 1 0:Nat):Int)=((gN d:Nat):Int)):=(by show _=_;simp[gN]);generalize gN d=n at h1 h2 h3 M⊢;generalize d.getD 0 0=x0 at c0 M an;generalize d.getD 1 0=x1 at c1 M ao;have N:((d.drop 6).take n).length=n:=(by simp;omega);have aa:∀x∈(d.drop 6).take n,x<256:=fun x E=>Y x (Pk (Pi E));have K:dW w (some ⟨b,A+6,none⟩) ((d.drop 6).take n):=(J.drop 6).take n;have I:=a8 (vB ((d.drop 6).take n));generalize (d.drop 6).take n=R at N aa K I⊢;have z:=a8 N;clear N;go_enter func47,ntmps47;go_wp2;go_quiet(fail);rw[M.out];clear c0 c1;go_wp2_with fail;refine(FZ n (some ⟨b,A+6,none⟩) (cap-6) R (dU z).symm (w.drewN nq) (by have:=dU z;omega) (by have:=dU z;omega) K aa).mono ?_;rintro e w2 ⟨v2,rfl,Q,ab⟩;obtain⟨a2,c2,rfl⟩:=Q.slice;have ag:Below w.heap.size w w2:=(OI (OX w.heap.size w) nq).trans ab;have Z:dR w2 w.heap.size (.slice a2 (fN R).length c2) (fN R):=Q;have av:(fN R).length≤40000:=(by have:=dU I;have:=dU z;omega);clear Q ab;go_wp2;go_loopw [42] (fun i wr=>∃k:Nat,k≤(fN R).length∧i= .int .i64 k∧(fN R).take k=d.take k∧dR wr w.heap.size (.slice a2 (fN R).length c2) (fN R)∧Below w.heap.size w wr) (fun i _=>(fN R).length-(intOf i).toNat)
 case atStart=>exact⟨0,O4 _,rfl,rfl,Z,ag⟩
 case round=>
  obtain⟨k,hk,rfl,af,U,G⟩:=hrel;clear Z ag;have HT:=a8 af;clear af;by_cases O:k<(fN R).length
  ·have L:k<d.length:=(by have:=dU I;have:=dU z;omega);obtain⟨b2,ar,rfl,ac⟩:=U.row (by omega);have au:=ac k O;have ad:=(J.below G).at k L;have aq:wr.cell? ⟨b,A+k,none⟩=some (.int .u8 ((d[k]:Nat):Int)):=(by rw[ad];simp[L]);have ax:(k:Int)<(d.length:Int):=(by omega);have HO:=a8 U;have HN:=a8 G;clear ac ad U G J K;by_cases E:(fN R)[k]=d[k]
   ·have am:((((fN R)[k]:Nat):Int) !=((d[k]:Nat):Int))=false:=(by simp[E]);have V:=a8 E;clear E;go_wp2;go_quiet(fail);go_wp2;go_roundw
    case rel=>exact⟨k+1,by omega,by go_num,qm O L (dU HT) (dU V),dU HO,OI (dU HN) _⟩
    case measure=>simp[intOf];omega
   ·have am:((((fN R)[k]:Nat):Int) !=((d[k]:Nat):Int))=true:=(by simp;omega);have V:=a8 E;clear E;go_wp2;go_quiet(fail);go_wp2;go_ret2;refine⟨OI (dU HN) _,.inr ⟨fun h=>dU V ?_,rfl⟩⟩;have aj:k<6+n:=(by have:=dU I;have:=dU z;omega);have e1:(fN R)[k]? =some d[k]:=(by rw[h,List.getElem?_take,OS aj,OZ L]);rw[OZ O] at e1;simpa using e1
  ·have he:fN R=d.take (6+n):=by
    have ak:k=6+n:=(by have:=dU I;have:=dU z;omega);have ah:(fN R).take k=fN R:=Pc (by omega);rw[←ah,dU HT,ak]
   have HE:=a8 he;clear he;go_wp2_with fail;refine(FX n (some ⟨b,A+6,none⟩) (cap-6) R (dU z).symm wr (by have:=dU z;omega) (K.below G)).mono ?_;rintro e w4 ⟨rfl,al,ai⟩;have ae:=G.size;go_wp2;go_ret2;exact⟨G.trans (ai.mono ae),.inl ⟨dU HE,_,rfl,al.mono ae⟩⟩
theorem AL(b E cap:Nat)(d:LN)(w:World)(K:d.length≤40000)(N:d.length≤cap)(M:dW w (some ⟨b,E,none⟩) d)(L:∀x∈d,x<256):
  Calls prog 47 #[.slice (some ⟨b,E,none⟩) d.length cap] w fun e w'=>Below w.heap.size w w'∧((∃r v,f6 d=some r∧e= .returned (.tuple #[v,.bool true])∧dR w' w.heap.size v r)∨(f6 d=none∧e= .returned (.tuple #[.slice none 0 0,.bool false]))):=by
 by_cases G:d.length<6
 ·refine(vI b E cap d w G).mono fun e w' ⟨z,A⟩=>⟨A,.inr ⟨mg G,z⟩⟩
 by_cases I:gN d<1∨2000<gN d∨d.length<6+gN d
 ·refine(AM b E cap d w (by omega) K M L I).mono fun e w' ⟨z,A⟩=>⟨A,.inr ⟨rE G I,z⟩⟩
 ·refine(yz b E cap d w (by omega) K N M L (by omega) (by omega) (by omega)).mono fun e w' ⟨A,h⟩=>⟨A,?_⟩
  rcases h with⟨J,v,z,O⟩|⟨J,z⟩
  ·exact .inl ⟨_,v,rF G I J,z,O⟩
  ·exact .inr ⟨tH G I J,z⟩
theorem sy(n b z cap:Nat)(w:World)(A:n<6):
  Calls prog 47 #[.slice (some ⟨b,z,none⟩) n cap] w fun e w'=>e= .returned (.tuple #[.slice none 0 0,.bool false])∧w'=w:=by
 go_enter func47,ntmps47;go_wp2;go_ret2;exact⟨rfl,rfl⟩
theorem FY(n b z cap:Nat)(d:LN)(I:n=d.length)(w:World)(E:d.length≤40000)(A:d.length≤cap)(J:dW w (some ⟨b,z,none⟩) d)(G:∀x∈d,x<256):
  Calls prog 47 #[.slice (some ⟨b,z,none⟩) n cap] w fun e w'=>Below w.heap.size w w'∧((∃r v,f6 d=some r∧e= .returned (.tuple #[v,.bool true])∧dR w' w.heap.size v r)∨(f6 d=none∧e= .returned (.tuple #[.slice none 0 0,.bool false]))):=by
 subst I;exact AL b z cap d w E A J G
theorem rg(b A cap:Nat)(d:LN)(w:World)(E:40000<d.length):
  Calls prog 19 #[.slice (some ⟨b,A,none⟩) d.length cap] w fun e w'=>∃v,e= .returned v∧zF w' w.heap.size v (dP d)∧Below w.heap.size w w':=by
 have z:dP d=([],0):=(by unfold dP;rw[OS E]);rw[z];clear z;go_enter func19,ntmps19;go_wp2;exact OJ (v:= .agg #[.slice none 0 0,.int .i64 0]) (by simp[results,results19,go_sem]) rfl ⟨_,rfl,⟨_,[],rfl,eO.nil _ _⟩,((OX _ _).alloc (OV _) _).alloc (by simp) _⟩
theorem sC(b aa cap:Nat)(d:LN)(w:World)(hl:d.length≤40000)(ax:d.length≤cap)(hr:dW w (some ⟨b,aa,none⟩) d)(hb:∀x∈d,x<256):
  Calls prog 19 #[.slice (some ⟨b,aa,none⟩) d.length cap] w fun e w'=>∃v,e= .returned v∧zF w' w.heap.size v (dP d)∧Below w.heap.size w w':=by
 have hd:decide ((40000:Int)<(d.length:Int))=false:=(by simp;omega);have K:Hid (kH d d.length [] 0=dP d):=(by show _=_;unfold dP;rw[OR (by omega)]);go_enter func19,ntmps19;go_wp2
 go_loopg [4] d.length (fun f _ wr=>∃rs g vr M,Unf w wr f d rs g vr M)
 case atStart=>
  refine⟨[],0,.slice none 0 0,[],K,by omega,by omega,by simp,?_,?_,eO.nil _ _,((OX _ _).alloc (OV _) _).alloc (by simp) _,by simp⟩
  ·exact(Below.heap_alloc (w.alloc _) _ _ (by simp)).trans (OP w _)
  ·have h:=OP (w.alloc (.cells #[.slice none 0 0,.int .i64 0] 58)) (.cells #[.slice none 0 0,.int .i64 0] 58);simpa[gC] using h
 case round=>
  obtain⟨rs,g,vr,M,ah,ap,aE,aG,G,E,Q,O,ak⟩:=hrel;have J:=a8 ah;clear ah K;have c0:=E.c0;have c1:=E.c1;have f0:=E.fz 0;have f1:=E.fz 1;have aF:(g:Int)≤(d.length:Int):=(by omega);have au:=O.size;have aj:=hr.below O;by_cases aD:g<cap
  ·go_wp2_with fail;refine(FY (d.length-g) b (aa+g) (cap-g) (d.drop g) (by simp) wr (by simp;omega) (by simp;omega) (aj.drop g) (fun x hx=>hb x (Pk hx))).mono ?_;rintro e w2 ⟨I,h2⟩;have L:=G.below I G.lt;have Y:=E.below I E.lt;have Z:=Q.below I (OV _);have ac:=a8 Q;have ad:Below w.heap.size w w2:=O.trans (I.mono au);have aw:=I.size;clear G E Q c0 c1 f0 f1 aj hr;have c0:=Y.c0;have c1:=Y.c1;have f0:=Y.fz 0;have f1:=Y.fz 1;have r0:=L.c0;have r1:=L.c1;have q0:=L.fz 0;have q1:=L.fz 1;rcases h2 with⟨r,v,z,rfl,ae⟩|⟨z,rfl⟩
   ·obtain⟨a2,c2,rfl⟩:=ae.slice;have ar:=nK z;simp only[O9] at ar;obtain⟨f',ag,ab,af⟩:=Cm (rs:=rs) ap z;rw[dU J] at ab;have an:=a8 ab;have HF:=a8 ag;have am:=a8 af;clear ab ag af z J;have ao:=a8 ((dU ac).ne_new ae);clear ac;obtain⟨R,U,rfl⟩:=Z.slice;have HA:=a8 (Fc (e:=52) ak aw L Y Z (ae.mono ak) ad);have al:rs.length≤1048576:=(by omega);clear L Z O I ad r0 r1 q0 q1;go_wp2_with (at_builtin;refine qw _ rfl _ _ rfl (w.heap.size+2) (.slice R rs.length U) M rs (.slice a2 r.length c2) r w2.heap.size 1 rfl rfl (dU HA).1 (dU HA).2.1 (dU HA).2.2.1 (dU ao) al (by simp;omega) ?_;intro v3 w3 ai aq;obtain⟨a3,c3,rfl⟩:=ai.slice;have A:=(dU HA).2.2.2 w3 aq;have ay:=A.2.1.c0;have az:=A.2.1.c1;have aA:=A.2.1.fz 0;have aB:=A.2.1.fz 1)
    have N:=Cl (u:= .int .i64 ((g:Int)+(6+(r.length:Int)))) A.1 A.2.1 ai A.2.2.1 A.2.2.2
    go_roundg f'
    case measure=>have:=dU HF;omega
    case rel=>
     refine⟨rs++[r],g+(6+r.length),.slice a3 (rs++[r]).length c3,M++[.slice a2 r.length c2],(dU an).symm,by have:=dU am;omega,by omega,by simp;omega,?_,?_,?_,?_,?_⟩
     ·simpa using N.1
     ·simpa using N.2.1
     ·simpa using N.2.2.1
     ·simpa using N.2.2.2.1
     ·simpa using N.2.2.2.2
   ·have V:dP d=(rs,g):=(by rw[←dU J];exact oc z);have K:=a8 V;clear V J ac z;obtain⟨R,U,rfl⟩:=Z.slice;go_wp2;refine OJ (v:= .agg #[.slice R rs.length U,.int .i64 (g:Int)]) (by simp[results,results19,go_sem,r0,r1]) rfl ⟨_,rfl,?_,(ad.setCell (OV _) _).setCell (OV _) _⟩;rw[dU K];exact⟨_,M,rfl,((Z.other (by omega) _).other (by omega) _).mono (by omega)⟩
  ·obtain rfl:g=cap:=(by omega);have aC:d.length-g=0:=(by omega);have z:f6 (d.drop g)=none:=mg (by simp;omega);have V:dP d=(rs,g):=(by rw[←dU J];exact oc z);have K:=a8 V;have r0:=G.c0;have r1:=G.c1;have q0:=G.fz 0;have q1:=G.fz 1;clear V J z;obtain⟨R,U,rfl⟩:=Q.slice;go_wp2_with fail;refine(sy 0 b aa 0 wr (by omega)).mono ?_;rintro e w2 ⟨rfl,rfl⟩;go_wp2;refine OJ (v:= .agg #[.slice R rs.length U,.int .i64 (g:Int)]) (by simp[results,results19,go_sem,r0,r1]) rfl ⟨_,rfl,?_,(O.setCell (OV _) _).setCell (OV _) _⟩;rw[dU K];exact⟨_,M,rfl,((Q.other (by omega) _).other (by omega) _).mono (by omega)⟩
def ig(d:LN)(cs at_:Nat):LN:=(d.drop cs).take (at_-cs)
def qh(d:LN)(cs at_:Nat):Nat×Nat×LN:=(cs,at_,d6 (et (ig d cs at_)))
def iP(d:LN)(x:Nat×Nat):Bool:=fi (dS d x)&&decide (fW (dS d x)=0)
def eI(d:LN):List (Nat×Nat)→Nat→Nat→Option (List (Nat×Nat×LN))
 |[],cs,at_=>if 0<at_ then(if eB (ig d cs at_)=true then some [qh d cs at_] else none) else some []
 |x::r,cs,at_=>if iP d x=true∧0<at_ then(if eB (ig d cs at_)=true then(eI d r at_ (at_+x.2)).map (qh d cs at_::·) else none) else eI d r cs (at_+x.2)
def rf(d:LN):Option (List (Nat×Nat×LN)):=if 40000<d.length then none else eI d (eP d) 0 0
def jV(n:Nat):Nat→LN→List (Nat×Nat)
 |cs,[]=>[(cs,n)]
 |cs,h::t=>(cs,h)::jV n h t
theorem Dc(s:Nat)(R:LN)(n k:Nat):fy (s::R) n (k+1)=fy R n k:=by
 unfold fy;simp[List.getD]
theorem rP(n:Nat):∀(cs:Nat) (H:LN),(List.range (cs::H).length).map (fy (cs::H) n)=jV n cs H
 |cs,[]=>by simp[jV,fy,List.getD]
 |cs,h::t=>by
  rw[Pf,List.range_succ_eq_map,Pe,PP];have e:(fy (cs::h::t) n∘Nat.succ)=fy (h::t) n:=(by funext k;exact Dc cs (h::t) n k);rw[e,rP n h t];simp[jV,fy,List.getD]
def pI(d:LN)(ps:List (Nat×Nat)):Option (List (Nat×Nat×LN)):=if∀p∈ps,eB (ig d p.1 p.2)=true then some (ps.map fun p=>qh d p.1 p.2) else none
theorem mP(d:LN)(p:Nat×Nat)(G:List (Nat×Nat)):pI d (p::G)=if eB (ig d p.1 p.2)=true then(pI d G).map (qh d p.1 p.2::·) else none:=by
 unfold pI;by_cases z:eB (ig d p.1 p.2)=true
 ·rw[OS z];by_cases A:∀q∈G,eB (ig d q.1 q.2)=true
  ·rw[OS A,OS (fun q E=>(Pd.1 E).elim (fun e=>e▸z) (A q))];rfl
  ·rw[OR A,OR (fun h=>A fun q E=>h q (O8 _ E))];rfl
 ·rw[OR z,OR (fun h=>z (h p (PB ..)))]
theorem re(d:LN):∀(xs:List (Nat×Nat)) (cs at_:Nat),lH d at_ xs→0<at_→eI d xs cs at_=pI d (jV d.length cs ((xs.filter (iP d)).map (·.1)))
 |[],cs,at_,hc,h0=>by
  have e:at_=d.length:=hc
  subst e;simp only[eI,List.filter_nil,PD,jV];rw[OS h0,mP];by_cases h:eB (ig d cs d.length)=true
  ·rw[OS h,OS h];simp[pI]
  ·rw[OR h,OR h]
 |x::r,cs,at_,hc,h0=>by
  obtain⟨E,G,A⟩:=hc;simp only[eI];by_cases z:iP d x=true
  ·rw[OS ⟨z,h0⟩,List.filter_cons_of_pos z,Pe,jV,mP,E,re d r at_ (at_+x.2) A (by omega)]
  ·rw[OR (fun h=>z h.1),PY z,re d r cs (at_+x.2) A (by omega)]
theorem qi(d:LN):∀(xs:List (Nat×Nat)) (s:Nat),lH d s xs→dN (fp d s xs)=(xs.filter (iP d)).map (·.1)
 |[],s,_=>rfl
 |x::r,s,hc=>by
  obtain⟨G,L,I⟩:=hc;have K:=qi d r (s+x.2) I;have J:∀a b:List (Nat×Nat),dN (a++b)=dN a++dN b:=fun a b=>(by unfold dN;rw[List.filter_append,O7]);rw[fp,J,K];by_cases z:fi (dS d x)=true
  ·rw[OS z];by_cases E:fW (dS d x)=0
   ·have A:iP d x=true:=(by unfold iP;rw[z,E];rfl);rw[List.filter_cons_of_pos A,Pe,G,E];rfl
   ·have A:¬iP d x=true:=(by unfold iP;rw[z,OM E];simp);rw[PY A];unfold dN;rw[PY (by simpa using E)];rfl
  ·have A:¬iP d x=true:=(by unfold iP;simp[z]);rw[OR z,PY A];rfl
theorem Da(d:LN)(h:d.take 10=gJ):gh d=10:=by
 obtain⟨t,rfl⟩:∃t,d=gJ++t:=⟨d.drop 10,by rw[←h,Pz]⟩
 simp[gJ,gh]
theorem Df(d:LN)(h:d.take 10=gJ):iP d (0,gh d)=true:=by
 unfold iP dS;rw[Da d h,List.drop_zero];show(fi (d.take 10)&&decide (fW (d.take 10)=0))=true;rw[h];decide
theorem H5{d:LN}{s:Nat}{xs:List (Nat×Nat)}(h:lH d s xs):∀x∈xs,s≤x.1:=by
 induction xs generalizing s with
 |nil=>intro x z;cases z
 |cons y r ih=>
  obtain⟨E,G,A⟩:=h;intro x z;rcases Pd.1 z with rfl|z
  ·omega
  ·have:=ih A x z;omega
theorem BX(d:LN)(h:0<d.length):∃r,eP d=(0,gh d)::r:=by
 obtain⟨n,z⟩:∃n,d.length=n+1:=⟨d.length-1,by omega⟩
 unfold eP;rw[z,gA,OR (by omega)];exact⟨_,rfl⟩
theorem tF(d:LN)(H:LN)(h:¬iP d (0,gh d)=true):pI d (jV d.length 0 H)=none:=by
 have E:∀e,¬eB (ig d 0 e)=true:=fun e G=>by
  obtain⟨A,z,_,_⟩:=je G;unfold ig at A z;rw[List.drop_zero,Nat.sub_zero] at A z;rw[Pa] at A;rw[List.take_take,Nat.min_eq_left (by omega)] at z;exact h (Df d z)
 cases H with
 |nil=>rw[jV,mP,OR (E _)]
 |cons a t=>rw[jV,mP,OR (E _)]
theorem Ke(d:LN):rf d=iK d:=by
 unfold rf;by_cases N:40000<d.length
 ·rw[OS N,jl (Or.inl N)]
 ·rw[OR N];have J:=jK d;have z:dN (eo d)=((eP d).filter (iP d)).map (·.1):=qi d (eP d) 0 J;by_cases M:0<d.length
  ·obtain⟨r,hr⟩:=BX d M;rw[hr] at J z⊢;obtain⟨_,Q,K⟩:=J;have R:=jM d M;simp only[Ps] at Q K;have V:eI d ((0,gh d)::r) 0 0=pI d (jV d.length 0 ((r.filter (iP d)).map (·.1))):=by
    rw[eI,OR (by omega),Ps];exact re d r 0 (gh d) K R
   rw[V];by_cases O:iP d (0,gh d)=true
   ·rw[List.filter_cons_of_pos O,Pe] at z;generalize (r.filter (iP d)).map (·.1)=H at z;have L:=rP d.length 0 H;have E:dN (eo d)=0::H:=z;by_cases G:∀p∈jV d.length 0 H,eB (ig d p.1 p.2)=true
    ·unfold pI;rw[OS G,pt (by omega) (by rw[E];simp) (fun k A=>by
      rw[E] at A⊢;exact G (fy (0::H) d.length k) (by rw[←L];exact Pg.2 ⟨k,List.mem_range.2 A,rfl⟩)),E,←L,PP]
     rfl
    ·unfold pI;rw[OR G];obtain⟨p,I,Y⟩:∃p,p∈jV d.length 0 H∧eB (ig d p.1 p.2)=false:=by
      apply Classical.byContradiction;intro hn;refine G fun p I=> ?_;cases e:eB (ig d p.1 p.2) with
      |true=>rfl
      |false=>exact OH ⟨p,I,e⟩ hn
     rw[←L] at I;obtain⟨k,A,rfl⟩:=Pg.1 I;exact(jl (Or.inr (Or.inr ⟨k,by rw[E];exact List.mem_range.1 A,by rw[E];exact Y⟩))).symm
   ·rw[tF d _ O];rw[PY O] at z;refine(jl (Or.inr (Or.inl ⟨M,?_⟩))).symm;rw[z];intro U;have hm:=List.mem_of_head? U;obtain⟨x,hx,aa⟩:=Pg.1 hm;have:=H5 K x (List.mem_filter.1 hx).1;omega
  ·have Z:d=[]:=PF (by omega);subst Z;rw[pt (by simp) (by simp) (fun k A=>by
    rw[z] at A;simp[eP,gA] at A),z]
   simp[eP,gA,eI]
abbrev SP:=Nat×Nat×LN
def sV(w:World)(lo:Nat)(v:Value)(vs:List S3)(xs:List SP):Prop:=vs.map (fun x:S3=>(x.1,x.2.1))=xs.map (fun x=>(x.1,x.2.1))∧gQ w lo v vs (xs.map (·.2.2))
theorem sV.below{v:Value}{z:List S3}{xs:List SP}(h:sV w lo v z xs)(E:Below B w w')(A:w.heap.size≤B):sV w' lo v z xs:=⟨h.1,h.2.below E A⟩
theorem sV.len{v:Value}{z:List S3}{xs:List SP}(h:sV w lo v z xs):z.length=xs.length:=by have:=h.2.len;simpa using this
theorem sV.pair{v:Value}{z:List S3}{xs:List SP}(h:sV w lo v z xs)(i:Nat)(hi:i<xs.length):∃x:S3,z[i]? =some x∧x.1=xs[i].1∧x.2.1=xs[i].2.1∧dR w lo x.2.2 xs[i].2.2:=by
 obtain⟨x,A,E⟩:=h.2.body i (by simpa using hi);rw[Po] at E;refine⟨x,A,?_,?_,E⟩
 ·have e:(z.map (fun x:S3=>(x.1,x.2.1)))[i]? =(xs.map (fun x=>(x.1,x.2.1)))[i]? :=(by rw[h.1]);rw[PE,PE,A,OZ hi] at e;simp at e;exact e.1
 ·have e:(z.map (fun x:S3=>(x.1,x.2.1)))[i]? =(xs.map (fun x=>(x.1,x.2.1)))[i]? :=(by rw[h.1]);rw[PE,PE,A,OZ hi] at e;simp at e;exact e.2
theorem sV.cells{a:OA}{z:List S3}{xs:List SP}(h:sV w lo (.slice a n cap) z xs)(V:0<xs.length):∃g,a=some ⟨g,0,none⟩∧n=xs.length∧∀i (hi:i<xs.length),∃x:S3,z[i]? =some x∧w.cell? ⟨g,i*3,none⟩=some (.int .i64 (xs[i].1:Int))∧w.cell? ⟨g,i*3+1,none⟩=some (.int .i64 (xs[i].2.1:Int))∧w.cell? ⟨g,i*3+2,none⟩=some x.2.2∧dR w lo x.2.2 xs[i].2.2:=by
 rcases h.2.row.2 with⟨_,K⟩|⟨g,Y,Z,J,_⟩
 ·simp at K;simp[K] at V
 ·simp only[O3] at J;obtain⟨rfl,rfl,rfl⟩:=J;refine⟨g,rfl,by simp,fun i hi=> ?_⟩;obtain⟨x,A,O,Q,U⟩:=h.pair i hi;have hl:=h.len;have R:z[i]'(by omega)=x:=(by rw[OZ (by omega)] at A;simpa using A);obtain⟨L,M,N⟩:=tl z i (by omega);rw[R] at L M N;have E:=OD h.2.row (g:=g) rfl (i*3) _ L;have G:=OD h.2.row (g:=g) rfl (i*3+1) _ M;have I:=OD h.2.row (g:=g) rfl (i*3+2) _ N;rw[ez,Ps] at E G I;exact⟨x,A,by rw[←O];exact E,by rw[←Q];exact G,I,U⟩
end Go.Proofs.YtkkdfgnnlpohlaaGreatDoor
