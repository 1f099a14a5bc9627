// Package frame holds the project's layout against the document: the calls that the chapters list, and the rules of the language that a look at the files can tell.
package frame

import (
	"testing"

	"aumbry/api"
	"aumbry/audit"
	"aumbry/book"
	"aumbry/command"
	"aumbry/disk"
	"aumbry/jobs"
	"aumbry/journal"
	"aumbry/leaf"
	"aumbry/match"
	"aumbry/memo"
	"aumbry/mix"
	"aumbry/name"
	"aumbry/names"
	"aumbry/net"
	"aumbry/nodes"
	"aumbry/num"
	"aumbry/pager"
	"aumbry/refs"
	"aumbry/rewrite"
	"aumbry/rule"
	"aumbry/slot"
	"aumbry/space"
	"aumbry/story"
	"aumbry/term"
	"aumbry/tree"
	"aumbry/vault"
)

// A signature that differs from its chapter's doesn't compile here.
var (
	_ func(uint64, int) (string, api.Errno)              = num.Put
	_ func(string, int, int) (uint64, api.Errno)         = num.Get
	_ func(string, int, uint64, int) (string, api.Errno) = num.Set
	_ func(string, int) (string, api.Errno)              = num.Pad
	_ func(string) string                                = num.Trim

	_ func(string) uint32         = mix.Hash
	_ func(string) uint32         = mix.Sum
	_ func(uint32, string) uint32 = mix.More

	_ func(string) int                = name.Kind
	_ func(string) []string           = name.Words
	_ func(string) (int64, api.Errno) = name.Number
	_ func(int64) string              = name.Write

	_ func(api.Term) api.Errno                        = term.Check
	_ func(string) (api.Term, int, api.Errno)         = term.Parse
	_ func(api.Term) (string, api.Errno)              = term.Print
	_ func(api.Term, int) int                         = term.End
	_ func(api.Term) ([]api.Term, api.Errno)          = term.Kids
	_ func(string, ...api.Term) (api.Term, api.Errno) = term.Make
	_ func(api.Term) ([]string, api.Errno)            = term.Vars
	_ func(api.Term) (int, api.Errno)                 = term.Depth

	_ func(api.Term, api.Term) ([]api.Bind, bool, api.Errno) = match.Match
	_ func(api.Term, []api.Bind) (api.Term, api.Errno)       = match.Fill

	_ func(api.Rule) api.Errno                             = rule.Check
	_ func(string, string) (api.Rule, api.Errno)           = rule.Parse
	_ func(api.Rule) (string, api.Errno)                   = rule.Print
	_ func(api.Rule) (api.Rule, api.Errno)                 = rule.Plain
	_ func(api.Rule) string                                = rule.Head
	_ func(api.Rule, api.Term) (api.Term, bool, api.Errno) = rule.Apply

	_ func(api.Term) (api.State, api.Errno)                                  = rewrite.Start
	_ func(api.State) api.Errno                                              = rewrite.Check
	_ func([]api.Rule, api.State, int, rewrite.Table) (api.State, api.Errno) = rewrite.Run
	_ func([]api.Rule, api.Term, int) (api.Term, int, api.Errno)             = rewrite.Normal

	_ func([]api.Rule) (*net.Net, api.Errno)           = net.Build
	_ func(*net.Net, api.Term) (int, []api.Bind, bool) = (*net.Net).First
	_ func(*net.Net, api.Term) []int                   = (*net.Net).All
	_ func(*net.Net) int                               = (*net.Net).Len

	_ func(int) (*disk.Disk, api.Errno)         = disk.New
	_ func([]string) (*disk.Disk, api.Errno)    = disk.Of
	_ func(*disk.Disk) int                      = (*disk.Disk).Len
	_ func(*disk.Disk, int) (string, api.Errno) = (*disk.Disk).Read
	_ func(*disk.Disk, int, string) api.Errno   = (*disk.Disk).Write
	_ func(*disk.Disk, int)                     = (*disk.Disk).Cut
	_ func(*disk.Disk) bool                     = (*disk.Disk).Down
	_ func(*disk.Disk)                          = (*disk.Disk).Restore
	_ func(*disk.Disk) []api.Page               = (*disk.Disk).Log
	_ func(*disk.Disk) []string                 = (*disk.Disk).Image

	_ func(int) int                          = journal.Pages
	_ func(int) int                          = journal.First
	_ func(*disk.Disk, []api.Page) api.Errno = journal.Commit
	_ func(*disk.Disk) (int, api.Errno)      = journal.Recover

	_ func(*disk.Disk, int) (*pager.Pager, api.Errno) = pager.New
	_ func(*pager.Pager, int) (string, api.Errno)     = (*pager.Pager).Load
	_ func(*pager.Pager, int, string) api.Errno       = (*pager.Pager).Store
	_ func(*pager.Pager, int) api.Errno               = (*pager.Pager).Pin
	_ func(*pager.Pager, int) api.Errno               = (*pager.Pager).Unpin
	_ func(*pager.Pager) api.Errno                    = (*pager.Pager).Commit
	_ func(*pager.Pager)                              = (*pager.Pager).Undo
	_ func(*pager.Pager) []int                        = (*pager.Pager).Dirty
	_ func(*pager.Pager) []int                        = (*pager.Pager).Held
	_ func(*pager.Pager) int                          = (*pager.Pager).Reads

	_ func(*disk.Disk, int) (*space.Space, api.Errno) = space.Open
	_ func(*space.Space) (string, api.Errno)          = (*space.Space).Head
	_ func(*space.Space, string) api.Errno            = (*space.Space).SetHead
	_ func(*space.Space, int) (string, api.Errno)     = (*space.Space).Get
	_ func(*space.Space, int, string) api.Errno       = (*space.Space).Put
	_ func(*space.Space) (int, api.Errno)             = (*space.Space).Alloc
	_ func(*space.Space, int) api.Errno               = (*space.Space).Release
	_ func(*space.Space) int                          = (*space.Space).Free
	_ func(*space.Space) []int                        = (*space.Space).Taken
	_ func(*space.Space) api.Errno                    = (*space.Space).Commit
	_ func(*space.Space)                              = (*space.Space).Undo

	_ func([]api.Entry) int                         = leaf.Size
	_ func(int, []api.Entry) (string, api.Errno)    = leaf.Pack
	_ func(string) (int, []api.Entry, api.Errno)    = leaf.Unpack
	_ func([]api.Entry, string) (int, bool)         = leaf.Find
	_ func([]api.Entry, string, string) []api.Entry = leaf.Put
	_ func([]api.Entry, string) ([]api.Entry, bool) = leaf.Take
	_ func([]api.Entry) ([]api.Entry, []api.Entry)  = leaf.Cut

	_ func(*space.Space) (int, api.Errno)                    = tree.New
	_ func(*space.Space, int) *tree.Tree                     = tree.At
	_ func(*tree.Tree, string) (string, bool, api.Errno)     = (*tree.Tree).Get
	_ func(*tree.Tree, string, string) api.Errno             = (*tree.Tree).Put
	_ func(*tree.Tree, string) (bool, api.Errno)             = (*tree.Tree).Delete
	_ func(*tree.Tree, string, int) ([]api.Entry, api.Errno) = (*tree.Tree).List
	_ func(*tree.Tree) ([]int, api.Errno)                    = (*tree.Tree).Pages

	_ func(string, []api.Addr) (uint32, api.Errno) = slot.Hash
	_ func(uint32, int) (api.Addr, api.Errno)      = slot.Address
	_ func(api.Addr) (uint32, int, bool)           = slot.Parts
	_ func(api.Bucket) (string, api.Errno)         = slot.Pack
	_ func(string) (api.Bucket, api.Errno)         = slot.Unpack

	_ func(*space.Space) (int, api.Errno)                                = nodes.New
	_ func(*space.Space, int) *nodes.Nodes                               = nodes.At
	_ func(*nodes.Nodes, string, []api.Addr) (api.Addr, bool, api.Errno) = (*nodes.Nodes).Find
	_ func(*nodes.Nodes, api.Addr) (api.Node, bool, api.Errno)           = (*nodes.Nodes).Get
	_ func(*nodes.Nodes, string, []api.Addr) (api.Addr, bool, api.Errno) = (*nodes.Nodes).Add
	_ func(*nodes.Nodes, api.Node) api.Errno                             = (*nodes.Nodes).Set
	_ func(*nodes.Nodes, api.Addr) (bool, api.Errno)                     = (*nodes.Nodes).Remove
	_ func(*nodes.Nodes) ([]api.Node, api.Errno)                         = (*nodes.Nodes).List
	_ func(*nodes.Nodes) (int, api.Errno)                                = (*nodes.Nodes).Depth
	_ func(*nodes.Nodes) ([]int, api.Errno)                              = (*nodes.Nodes).Pages

	_ func(*space.Space) (int, int, api.Errno)               = refs.New
	_ func(*space.Space, int, int) *refs.Refs                = refs.At
	_ func(*refs.Refs, api.Term) (api.Addr, api.Errno)       = (*refs.Refs).Keep
	_ func(*refs.Refs, api.Addr) api.Errno                   = (*refs.Refs).Hold
	_ func(*refs.Refs, api.Addr) api.Errno                   = (*refs.Refs).Drop
	_ func(*refs.Refs, api.Addr) (api.Term, api.Errno)       = (*refs.Refs).Load
	_ func(*refs.Refs, api.Term) (api.Addr, bool, api.Errno) = (*refs.Refs).Has
	_ func(*refs.Refs, int) (int, bool, api.Errno)           = (*refs.Refs).Reclaim
	_ func(*refs.Refs) ([]api.Addr, api.Errno)               = (*refs.Refs).Waiting
	_ func(*refs.Refs) *nodes.Nodes                          = (*refs.Refs).Nodes

	_ func(*space.Space) (int, int, api.Errno)               = names.New
	_ func(*space.Space, *refs.Refs, int, int) *names.Names  = names.At
	_ func(*names.Names, string, int) api.Errno              = (*names.Names).Declare
	_ func(*names.Names) ([]api.Symbol, api.Errno)           = (*names.Names).Symbols
	_ func(*names.Names) ([]string, api.Errno)               = (*names.Names).Order
	_ func(*names.Names, api.Term) api.Errno                 = (*names.Names).Fits
	_ func(*names.Names, string, api.Term) api.Errno         = (*names.Names).Set
	_ func(*names.Names, string) (api.Term, bool, api.Errno) = (*names.Names).Get
	_ func(*names.Names, string) (bool, api.Errno)           = (*names.Names).Forget
	_ func(*names.Names) ([]string, api.Errno)               = (*names.Names).Names

	_ func(*space.Space) (int, api.Errno)               = book.New
	_ func(*space.Space, *refs.Refs, int) *book.Book    = book.At
	_ func(*book.Book, api.Rule) (int, api.Errno)       = (*book.Book).Add
	_ func(*book.Book, int) (api.Rule, bool, api.Errno) = (*book.Book).Remove
	_ func(*book.Book) ([]api.Rule, api.Errno)          = (*book.Book).List
	_ func(*book.Book) (int, api.Errno)                 = (*book.Book).Version

	_ func(*space.Space) (int, api.Errno)                          = memo.New
	_ func(*space.Space, *refs.Refs, *names.Names, int) *memo.Memo = memo.At
	_ func(*memo.Memo, api.Memo) api.Errno                         = (*memo.Memo).Put
	_ func(*memo.Memo, api.Term) (api.Memo, bool, api.Errno)       = (*memo.Memo).Get
	_ func(*memo.Memo, api.Term) (api.Term, []string, bool)        = (*memo.Memo).Find
	_ func(*memo.Memo, string) (int, api.Errno)                    = (*memo.Memo).Edit
	_ func(*memo.Memo) (int, api.Errno)                            = (*memo.Memo).Len
	_ func(*memo.Memo) ([]api.Memo, api.Errno)                     = (*memo.Memo).List

	_ func(*space.Space) (int, api.Errno)                          = jobs.New
	_ func(*space.Space, *refs.Refs, *names.Names, int) *jobs.Jobs = jobs.At
	_ func(*jobs.Jobs, api.Term, int) (int, api.Errno)             = (*jobs.Jobs).Add
	_ func(*jobs.Jobs, int) (api.Job, bool, api.Errno)             = (*jobs.Jobs).Get
	_ func(*jobs.Jobs, int, api.State, int) api.Errno              = (*jobs.Jobs).Save
	_ func(*jobs.Jobs, int) (bool, api.Errno)                      = (*jobs.Jobs).Remove
	_ func(*jobs.Jobs) ([]int, api.Errno)                          = (*jobs.Jobs).List

	_ func(string) (api.Command, api.Errno) = command.Parse
	_ func(api.Command) (string, api.Errno) = command.Print

	_ func(*disk.Disk, int) (*vault.Vault, api.Errno) = vault.Open
	_ func(*vault.Vault, string) (string, api.Errno)  = (*vault.Vault).Do
	_ func(*vault.Vault) int                          = (*vault.Vault).Free
	_ func(*vault.Vault, string) int                  = (*vault.Vault).Demand

	_ func([]string) (api.Audit, api.Errno) = audit.Read

	_ func(int, string) ([]string, api.Errno) = story.Run

	_ table         = rewrite.Table(nil)
	_ rewrite.Table = table(nil)
)

type table interface {
	Find(t api.Term) (norm api.Term, heads []string, ok bool)
}

func TestConstants(t *testing.T) {
	for _, c := range []struct {
		what      string
		got, want int
	}{
		{"name.None", name.None, 0},
		{"name.Symbol", name.Symbol, 1},
		{"name.Variable", name.Variable, 2},
		{"space.HeadSize", space.HeadSize, 248},
		{"leaf.Leaf", leaf.Leaf, 1},
		{"leaf.Branch", leaf.Branch, 2},
	} {
		if c.got != c.want {
			t.Errorf("%s is %d, want %d", c.what, c.got, c.want)
		}
	}
}
