"""Names and seals that nobody can forge."""

from pursesapart.checks import check_bank, is_ascending, is_name_pair, is_number, is_number_from
from pursesapart.errors import BadContent, BadName, BadTrust, BadWho


class Trust:
    """A book of contents, each known by its name, and of who has sealed which of them."""

    def __init__(self):
        self._contents = []
        self._numbers = {}
        self._tuples = {}
        self._seals = {}
        self._facts = {}

    def name(self, content):
        """The name of the content: the one it has, or the next one."""
        if not self._is_content(content):
            raise BadContent("a content is made of numbers, strings, None, names that were given, and tuples of these")
        key = self._key_of(content)
        if key not in self._numbers:
            self._numbers[key] = len(self._contents)
            self._contents.append(content)
        return ("name", self._numbers[key])

    def is_name(self, value):
        """Whether any value is a name that was given."""
        return is_name_pair(value) and value[1] < len(self._contents)

    def content(self, name):
        """The content with this name."""
        self._check_name(name)
        return self._contents[name[1]]

    def size(self):
        """How many names were given."""
        return len(self._contents)

    def seal(self, who, name):
        """Who seals the content with this name, from now on."""
        self._check_seal(who, name)
        self._seals[(who, name)] = True

    def sealed(self, who, name):
        """Whether who has sealed the content with this name."""
        self._check_seal(who, name)
        return (who, name) in self._seals

    def facts_for(self, bank):
        """The dict of what was found out of names in this bank, each fact of the kind that stays for ever."""
        return self._facts.setdefault(bank, {})

    def _check_name(self, name):
        if not self.is_name(name):
            raise BadName("this name was not given")

    def _check_seal(self, who, name):
        if not is_who(who):
            raise BadWho("who seals is an owner or a member")
        self._check_name(name)

    def _is_content(self, value):
        waiting = [value]
        while waiting:
            item = waiting.pop()
            if isinstance(item, tuple) and not is_name_pair(item):
                waiting.extend(item)
            elif not self._is_single(item):
                return False
        return True

    def _is_single(self, value):
        return value is None or isinstance(value, str) or is_number(value) or self.is_name(value)

    def _key_of(self, content):
        # Contents may be nested deeply and keys of a dict may not: a tuple stands by a number of its own.
        if not isinstance(content, tuple):
            return content
        items = []
        for item in content:
            items.append(self._key_of(item))
        return ("tuple", self._tuples.setdefault(tuple(items), len(self._tuples)))


def is_who(value):
    """Whether any value tells an owner or a member, of whatever bank."""
    if not isinstance(value, tuple) or len(value) != 2:
        return False
    return value[0] in ("owner", "member") and is_number_from(value[1], 0)


def check_both(trust, bank):
    """BadTrust, then BadBank, for the two parameters with which most functions begin."""
    if not isinstance(trust, Trust):
        raise BadTrust("a Trust is wanted")
    check_bank(bank)


def is_ascending_names(trust, value):
    """Whether any value is a tuple of names that were given, each one less than the next."""
    if not isinstance(value, tuple) or not all([trust.is_name(name) for name in value]):
        return False
    return is_ascending(value)
