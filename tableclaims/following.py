"""Following: which keys and fixed columns, told as claims on one table, the others bring with them in whatever rows."""

from tableclaims.least import is_within


def keys_and_fixed(claims):
    return [claim for claim in claims if claim[0] in ("key", "fixes")]


def what_it_fixes(claim, names):
    if claim[0] == "key":
        return names
    return claim[3]


def fixed_by(given, claims, names):
    fixed = list(given)
    size = -1
    # What got fixed may fix more, by a claim gone past too: so once more, until nothing is new.
    while size < len(fixed):
        size = len(fixed)
        for claim in claims:
            if is_within(claim[2], fixed):
                fixed.extend([name for name in what_it_fixes(claim, names) if name not in fixed])
    return fixed


def follows(claim, others, names):
    fixed = fixed_by(claim[2], others, names)
    if claim[0] == "fixes":
        return is_within(claim[3], fixed)
    return any([other[0] == "key" and is_within(other[2], fixed) for other in others])


def all_others(claim, claims):
    return [other for other in claims if other != claim]


def cover(claims, names):
    left = list(claims)
    for claim in reversed(claims):
        others = all_others(claim, left)
        if follows(claim, others, names):
            left = others
    return left
