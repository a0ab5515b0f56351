package visor

import (
	"math"
	"reflect"
	"slices"
	"strings"
	"testing"

	"visor/api"
)

// The name of this file has the text "open", which is told, and behind it "secret", whose ID is 6.
const named = "true\x00\x02......" +
	"held....\x00\x00\x00\x2c\x00\x00\x00\x04" +
	"name....\x00\x00\x00\x30\x00\x00\x00\x28" +
	"1234" +
	"\x00\x00\x00\x02\x00\x1e" +
	"\x00\x01\x00\x00\x00\x05\x00\x01\x00\x04\x00\x00" +
	"\x00\x01\x00\x00\x00\x05\x00\x06\x00\x06\x00\x04" +
	"opensecret" +
	"end"

var guarded = api.Policy{Tags: []string{"held"}, IDs: []int{6}, Text: 60}

const plenty = 1 << 20

func TestInspect(t *testing.T) {
	want := api.Report{
		Kind: api.Outlines,
		Tables: []api.Table{
			{Tag: "held", Status: api.Withheld, Size: 4},
			{Tag: "name", Status: api.Good, Size: 40},
		},
		Head:   api.Head{Status: api.Absent},
		Rights: api.Rights{Status: api.Absent},
		Naming: api.Good,
		Names: []api.Name{
			{Platform: 1, Language: 5, ID: 1, Text: "open"},
			{Platform: 1, Language: 5, ID: 6, Status: api.Withheld},
		},
		Cover: api.Cover{Status: api.Absent},
	}
	r, m, e := Inspect(guarded, named, plenty)
	if !reflect.DeepEqual(r, want) || e != api.OK {
		t.Errorf("P5: Inspect = %#v, %d, want %#v", r, e, want)
	}
	if m.Read < 6+8*2+8*2 || m.Read > 8*m.Steps || m.Steps > 64*len(named)+4096 {
		t.Errorf("P5: the meter is %v", m)
	}
	if _, e := Encode(r); e != api.OK {
		t.Errorf("P5: the report is not right: %d", e)
	}
}

func TestTheExampleInBytes(t *testing.T) {
	r, _, e := Inspect(api.Policy{Text: 1}, "\x00\x01\x00\x00\x00\x00\x00\x00\x00\x00\x00\x00", plenty)
	b, g := Encode(r)
	if b != "\x01\x00\x08\x00\x00\x00\x00\x08\x00\x00\x00\x00\x08\x00\x08\x00\x00\x00\x00\x00\x00" || e != api.OK || g != api.OK {
		t.Errorf("P5: the document's example: %x, %d, %d", b, e, g)
	}
}

func TestPublic(t *testing.T) {
	l, e := Public(guarded, named)
	var hidden strings.Builder
	for at, yes := range l {
		if !yes {
			hidden.WriteByte(named[at])
		}
	}
	if len(l) != len(named) || hidden.String() != "1234secretend" || e != api.OK {
		t.Errorf("P6: %q is not public, %d", hidden.String(), e)
	}
}

func TestTheErrorThatIsNamedFirst(t *testing.T) {
	long := strings.Repeat("x", api.MaxFont+1)
	var none *Session
	s := New()
	for _, c := range []struct {
		p      api.Policy
		font   string
		budget int
		want   api.Errno
	}{
		{api.Policy{}, long, -1, api.ErrPolicy},
		{api.Policy{}, named, 0, api.ErrPolicy},
		{guarded, long, -1, api.ErrFont},
		{guarded, long, plenty, api.ErrFont},
		{guarded, named, 0, api.ErrBudget},
		{guarded, named, math.MinInt, api.ErrBudget},
		{guarded, named, math.MaxInt, api.OK},
	} {
		r, m, e := Inspect(c.p, c.font, c.budget)
		if e != c.want || e != api.OK && (!reflect.DeepEqual(r, api.Report{}) || m != (api.Meter{})) {
			t.Errorf("P5: Inspect = %#v, %v, %d, want %d", r, m, e, c.want)
		}
		r, m, e = s.Inspect(c.p, c.font, c.budget)
		if e != c.want || e != api.OK && (!reflect.DeepEqual(r, api.Report{}) || m != (api.Meter{})) {
			t.Errorf("P7: Inspect = %#v, %v, %d, want %d", r, m, e, c.want)
		}
		r, m, e = none.Inspect(c.p, c.font, c.budget)
		if e != api.ErrNil || !reflect.DeepEqual(r, api.Report{}) || m != (api.Meter{}) {
			t.Errorf("P1: of a session that is nil: %#v, %v, %d", r, m, e)
		}
	}
}

// One session is asked everything, behind everything else: files that are told, that are not, and errors.
func TestSessionsLeaveNoTrace(t *testing.T) {
	type question struct {
		p      api.Policy
		font   string
		budget int
	}
	_, all, _ := Inspect(guarded, named, plenty)
	var asked []question
	for _, p := range []api.Policy{guarded, {Text: 60}, {Text: 2, IDs: []int{1}}, {Text: 1, Tags: []string{"name"}}, {}} {
		for _, font := range []string{named, named[:60], named + "more", "", "wOFF" + named[4:], strings.Repeat("x", api.MaxFont+1)} {
			for _, budget := range []int{plenty, -1, 0, 20, all.Steps - 1, all.Steps, math.MaxInt, math.MinInt} {
				asked = append(asked, question{p, font, budget})
			}
		}
	}
	s, other := New(), New()
	if s == nil || other == nil {
		t.Fatal("P7: New does not give sessions")
	}
	for i, first := range asked {
		for k, then := range asked {
			if (i*7+k)%5 != 0 {
				continue
			}
			other.Inspect(then.p, then.font, then.budget)
			s.Inspect(first.p, first.font, first.budget)
			r, m, e := s.Inspect(then.p, then.font, then.budget)
			want, n, g := Inspect(then.p, then.font, then.budget)
			if !reflect.DeepEqual(r, want) || m != n || e != g {
				t.Fatalf("P7: behind %d, %d: %#v, %v, %d, want %#v, %v, %d", i, k, r, m, e, want, n, g)
			}
		}
	}
}

// What a session answered is the caller's: changing it changes no later answer.
func TestASessionKeepsNoAnswer(t *testing.T) {
	s := New()
	want, _, _ := Inspect(guarded, named, plenty)
	first, _, _ := s.Inspect(guarded, named, plenty)
	second, _, _ := s.Inspect(guarded, named, plenty)
	clear(first.Tables[:cap(first.Tables)])
	clear(first.Names[:cap(first.Names)])
	third, _, _ := s.Inspect(guarded, named, plenty)
	if !reflect.DeepEqual(second, want) || !reflect.DeepEqual(third, want) {
		t.Errorf("P2: answers share memory: %#v, %#v", second, third)
	}
}

func TestAPolicyIsNotKept(t *testing.T) {
	s := New()
	p := api.Policy{Tags: []string{"held"}, IDs: []int{6}, Text: 60}
	s.Inspect(p, named, plenty)
	if !slices.Equal(p.Tags, guarded.Tags) || !slices.Equal(p.IDs, guarded.IDs) {
		t.Errorf("P2: the policy is changed: %#v", p)
	}
	p.Tags[0], p.IDs[0] = "name", 1
	r, m, e := s.Inspect(guarded, named, plenty)
	want, n, g := Inspect(guarded, named, plenty)
	if !reflect.DeepEqual(r, want) || m != n || e != g {
		t.Errorf("P2: the policy is kept: %#v", r)
	}
}

// Files that differ in what is held back alone.
func TestWhatIsHeldBackTellsNothing(t *testing.T) {
	public, _ := Public(guarded, named)
	_, all, _ := Inspect(guarded, named, plenty)
	s := New()
	for _, change := range []byte{1, 0x80, 0xff} {
		b := []byte(named)
		for at, yes := range public {
			if !yes {
				b[at] ^= change
			}
		}
		for budget := -1; budget <= all.Steps+1; budget++ {
			r, m, e := Inspect(guarded, named, budget)
			o, n, g := Inspect(guarded, string(b), budget)
			if !reflect.DeepEqual(r, o) || m != n || e != g {
				t.Errorf("P8: with %d steps: %#v, %v, %d and %#v, %v, %d", budget, r, m, e, o, n, g)
			}
			o, n, g = s.Inspect(guarded, string(b), budget)
			if !reflect.DeepEqual(r, o) || m != n || e != g {
				t.Errorf("P8: of a session, with %d steps: %#v, %v, %d and %#v, %v, %d", budget, r, m, e, o, n, g)
			}
		}
	}
}
