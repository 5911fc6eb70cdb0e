package tenants

import (
	reference "encoding/base64"
	"math/rand"
	"testing"

	"turnpike/api"
	"turnpike/words"
)

func gaveUp(t *testing.T, read func()) (up bool) {
	t.Helper()
	defer func() {
		if r := recover(); r != nil {
			if _, ok := r.(words.Wrong); !ok {
				t.Errorf("panic with %v, want a words.Wrong", r)
			}
			up = true
		}
	}()
	read()
	return false
}

func TestBase64(t *testing.T) {
	r := rand.New(rand.NewSource(4))
	for n := range 300 {
		text := make([]byte, n%30)
		for i := range text {
			text[i] = byte(r.Intn(256))
		}
		if got, want := base64(string(text)), reference.StdEncoding.EncodeToString(text); got != want {
			t.Errorf("base64(%q) = %q, want %q", text, got, want)
		}
	}
}

func TestCredentials(t *testing.T) {
	for user, want := range map[api.User]string{
		{Name: "ann", Secret: "secret"}: "Basic YW5uOnNlY3JldA==",
		{Name: "bob", Secret: "b:c"}:    "Basic Ym9iOmI6Yw==",
		{Name: "a", Secret: "!"}:        "Basic YToh",
		{Name: "a", Secret: "~~"}:       "Basic YTp+fg==",
		{Name: "a", Secret: "???"}:      "Basic YTo/Pz8=",
	} {
		list := List(nil).With(user)
		if list[0].Credentials != want {
			t.Errorf("the credentials of %v are %q, want %q", user, list[0].Credentials, want)
		}
		if name, found := list.By(want); name != user.Name || !found {
			t.Errorf("By(%q) = %q, %v", want, name, found)
		}
	}
}

func TestBy(t *testing.T) {
	list := List(nil).With(api.User{Name: "ann", Secret: "secret"}).With(api.User{Name: "bob", Secret: "secret"})
	for credentials, want := range map[string]string{"Basic YW5uOnNlY3JldA==": "ann", "Basic Ym9iOnNlY3JldA==": "bob"} {
		if name, found := list.By(credentials); name != want || !found {
			t.Errorf("By(%q) = %q, %v", credentials, name, found)
		}
	}
	for _, credentials := range []string{"", "Basic ", "YW5uOnNlY3JldA==", "basic YW5uOnNlY3JldA==", "Basic  YW5uOnNlY3JldA==", "Basic YW5uOnNlY3JldB==", "Basic YW5uOnNlY3JldA=", "Basic YW5uOnNlY3JldA", "Basic YW5uOnNlY3JldA===", "Basic YW5uOnNlY3JldA==Basic Ym9iOnNlY3JldA==", "ann"} {
		if name, found := list.By(credentials); name != "" || found {
			t.Errorf("By(%q) = %q, %v", credentials, name, found)
		}
	}
}

func TestWithGivesUp(t *testing.T) {
	list := List(nil).With(api.User{Name: "ann", Secret: "twelveletter"})
	for _, user := range []api.User{
		{}, {Name: "", Secret: "x"}, {Name: "A", Secret: "x"}, {Name: "a1", Secret: "x"}, {Name: "ninelette", Secret: "x"}, {Name: "*", Secret: "x"},
		{Name: "b", Secret: ""}, {Name: "b", Secret: "thirteenchars"}, {Name: "b", Secret: " "}, {Name: "b", Secret: "a b"}, {Name: "b", Secret: "\x7f"}, {Name: "b", Secret: "\x80"}, {Name: "b", Secret: "a\n"}, {Name: "b", Secret: "\x00"}, {Name: "b", Secret: "\xff"},
		{Name: "ann", Secret: "other"}, {Name: "ann", Secret: "twelveletter"},
	} {
		if !gaveUp(t, func() { list.With(user) }) {
			t.Errorf("the user %q was read", user)
		}
	}
	if len(list) != 1 || len(list.With(api.User{Name: "letterss", Secret: "!"})) != 2 {
		t.Error("a user that may be is not read")
	}
}
