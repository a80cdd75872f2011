package precept_test

import (
	"regexp"
	"strings"
	"testing"

	"precept/api"
	"precept/precept"
)

// refused: does New answer just this error, and nothing beside it?
func refused(t *testing.T, rules string, room int, want api.Errno, wantPlace int) {
	t.Helper()
	x, e, place := precept.New(rules, room)
	if x != nil || e != want || place != wantPlace {
		t.Errorf("P3: New(%.80q, %d) = %v, %d, %d, want %d, %d", rules, room, x != nil, e, place, want, wantPlace)
	}
}

// taken: does New give an engine?
func taken(t *testing.T, rules string, room int) {
	t.Helper()
	x, e, place := precept.New(rules, room)
	if x == nil || e != api.OK || place != 0 {
		t.Errorf("P3: New(%.80q, %d) = %v, %d, %d, want an engine", rules, room, x != nil, e, place)
	}
}

func TestP3Examples(t *testing.T) {
	taken(t, "5:axy>+bxy;", 9)
	taken(t, "", 9)
	taken(t, "5:axy,x<y>+bx^y~,-ax,.;0:!a__>.;", 9)
	refused(t, "5:axy>", 9, api.ErrForm, 6)
	refused(t, "5:axg>.;", 9, api.ErrForm, 4)
	refused(t, "5:x_y>.;", 9, api.ErrForm, 3)
	refused(t, "5:axy>+bxz;", 9, api.ErrUnbound, 0)
	refused(t, "1:a1y>.;5:!bx_,axy>.;", 9, api.ErrUnbound, 1)
	refused(t, "5:a__,a__,a__,a__>.;", 9, api.ErrMany, 0)
	refused(t, "5:axy>.,", 9, api.ErrForm, 8)
}

// The form, written once more.
const (
	condition = `(!?[a-f][0-9w-z_]{2}|[0-9w-z][<=#][0-9w-z])`
	action    = `(\+[a-f][0-9w-z][\^~]?[0-9w-z][\^~]?|-[a-f][0-9w-z][\^~]?|\.)`
)

var whole = regexp.MustCompile(`^([0-9]:` + condition + `(,` + condition + `)*>` + action + `(,` + action + `)*;)*$`)

// fullEnd has all the parts of a rule: behind every beginning of rules one of
// its ends makes the rules whole.
const fullEnd = "5:!a00,0<0,a00>+a00,-a0,.;"

// canBegin: do some rules begin with this text?
func canBegin(text string) bool {
	for i := 0; i <= len(fullEnd); i++ {
		if whole.MatchString(text + fullEnd[i:]) {
			return true
		}
	}
	return false
}

// checkForm: does New find the form, or its first wrong place, in a text of
// which all but the last byte begins rules?
func checkForm(t *testing.T, text string) {
	t.Helper()
	if !canBegin(text) {
		for _, rest := range []string{"", "5:axy>.;", "\x00", ";;"} {
			refused(t, text+rest, 9, api.ErrForm, len(text)-1)
		}
		return
	}
	if !whole.MatchString(text) {
		refused(t, text, 9, api.ErrForm, len(text))
		return
	}
	if _, e, _ := precept.New(text, 9); e == api.ErrForm {
		t.Errorf("P3: New(%q) is ErrForm", text)
	}
}

func TestP3FormAtEveryPlace(t *testing.T) {
	for _, rules := range []string{
		"5:!a00,0<0,a00>+a00,-a0,.;",
		"0:fzw,w#9,!b_z>-f9^,+cz~w^,.;9:1=2>.;",
		"3:a__>+a0^1,+a0^1~,-b3~;",
	} {
		taken(t, rules, 9)
		for i := 0; i <= len(rules); i++ {
			for b := 0; b < 256; b++ {
				checkForm(t, rules[:i]+string([]byte{byte(b)}))
			}
		}
	}
}

func TestP3FormHasNoBounds(t *testing.T) {
	refused(t, "5:"+strings.Repeat("axy,", 99), 9, api.ErrForm, 398)
	refused(t, "5:axy>"+strings.Repeat(".,", 197), 9, api.ErrForm, 400)
	refused(t, strings.Repeat("5:0=0>.;", 49)+"5:0=0>.,", 9, api.ErrForm, 400)
	refused(t, strings.Repeat("5:0=0>.;", 49)+"5:0=0>.x", 9, api.ErrForm, 399)
}

func TestP3Length(t *testing.T) {
	rule := "5:axy,axy,axy,!axy,!axy>+ax^y^,+ax^y^,+ax^y^,+ax^y^;"
	longest := strings.Repeat(rule, 7) + "5:axy,axy,axy>+ax^y^,+ax^y^,+axy^,.;"
	if len(longest) != api.MaxText {
		t.Fatalf("the text has %d bytes", len(longest))
	}
	taken(t, longest, 9)
	refused(t, longest+"5", 9, api.ErrLong, 0)
	refused(t, strings.Repeat("x", 400), 9, api.ErrForm, 0)
	refused(t, strings.Repeat("x", 401), 9, api.ErrLong, 0)
	refused(t, strings.Repeat("\xff", 1<<20), 9, api.ErrLong, 0)
}

// list: n times the same, with `,` between.
func list(part string, n int) string {
	return strings.TrimSuffix(strings.Repeat(part+",", n), ",")
}

func TestP3Many(t *testing.T) {
	for _, part := range []string{"0=0", "!a__", "!a00"} {
		taken(t, "5:"+list(part, 5)+">.;", 9)
		refused(t, "5:"+list(part, 6)+">.;", 9, api.ErrMany, 0)
	}
	taken(t, "5:a__,b__,c__,!d__,!e__>.;", 9)
	refused(t, "5:a__,b__,!d__,c__,a__>.;", 9, api.ErrMany, 0)
	for _, part := range []string{".", "+a00", "-a0^"} {
		taken(t, "5:a__>"+list(part, 4)+";", 9)
		refused(t, "5:a__>"+list(part, 5)+";", 9, api.ErrMany, 0)
	}
	good := "5:0=0>.;"
	taken(t, strings.Repeat(good, 9), 9)
	refused(t, strings.Repeat(good, 10), 9, api.ErrMany, 9)
	refused(t, strings.Repeat(good, 50), 9, api.ErrMany, 9)
	refused(t, strings.Repeat(good, 9)+"5:0=0>.,.,.,.,.;", 9, api.ErrMany, 9)
	refused(t, strings.Repeat(good, 4)+"5:0=0>.,.,.,.,.;"+strings.Repeat(good, 9), 9, api.ErrMany, 4)
}

func TestP3Unbound(t *testing.T) {
	good := "5:awx,byz>.;"
	for _, bad := range []string{"5:!ax_>.;", "5:!a_x>.;", "5:!axx,!axx>.;", "5:x=x>.;", "5:3<x>.;", "5:x<3,axy>.;", "5:axy,z#x>.;", "5:0=0>+ax0;", "5:0=0>+a0x;", "5:0=0>-ax^;", "5:0=0>.,-aw;", "5:axy,!az_>.;", "5:a__>+a00,+a0z~;"} {
		refused(t, bad, 9, api.ErrUnbound, 0)
		refused(t, good+good+bad+bad, 9, api.ErrUnbound, 2)
	}
	taken(t, "5:ax_>.;5:a_y,!by_,y<3,y=y>+byy,-ay~;", 9)
	refused(t, "5:ax_>.;5:a_y,!by_,y<3,y=x>+byy,-ay~;", 9, api.ErrUnbound, 1)
	taken(t, "5:!a__,3<4,axx>+axx;", 9)
}

func TestP3Room(t *testing.T) {
	for _, room := range []int{1, 2, 998, 999} {
		taken(t, "5:axy>.;", room)
	}
	for _, room := range []int{0, -1, 1000, 1 << 62, 1<<63 - 1, -1 << 63} {
		refused(t, "5:axy>.;", room, api.ErrRoom, 0)
	}
}

func TestP3OrderOfErrors(t *testing.T) {
	unbound := "5:0=0>-ax;"
	many := "5:0=0>.,.,.,.,.;"
	refused(t, unbound, 0, api.ErrUnbound, 0)
	refused(t, unbound+many, 0, api.ErrMany, 1)
	refused(t, many+unbound, 0, api.ErrMany, 0)
	refused(t, unbound+many+"5", 0, api.ErrForm, 27)
	refused(t, strings.Repeat(unbound+many, 16), 0, api.ErrLong, 0)
}

func TestP3EngineIsEmpty(t *testing.T) {
	x, _, _ := precept.New("5:axy>.;", 9)
	if kept := x.Kept(); kept != 0 {
		t.Errorf("P3: Kept = %d", kept)
	}
	if _, e := x.View(1); e != api.ErrSession {
		t.Errorf("P3: a session is open: %d", e)
	}
}
